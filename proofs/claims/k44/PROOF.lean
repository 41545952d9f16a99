import PyProof.Rows.All
import Wide.All
import OpenK.AllK
import Wide.FinOn
import HandS.ForMost
import HandS.ForExc
import HandS.Rev
import HandS.TupAny
import HandS.More
import HandS.Star
import HandS.Codes
import HandS.DictComp
import HandS.SetKeys
import HandS.Zip
import HandS.IsInst
import HandS.Wide
import HandS.Flow
import HandS.FStr
import HandS.Deep
import HandS.Nested
import HandS.Style
import HandS.TupMul
import KE.KDictList
import KE.GoesMore
import HandS.SortInts
import HandS.Zip0
import HandS.Sort
import HandS.TryOnly
import HandS.Dict
import HandS.Iter
import HandS.List
import PyProof.Rows.SortStr
import PyProof.Rows.StrMeet
import KE.SortKeyHeap
import HandS.SortKw
import KE.KDictCopyH
import HandS.Strs
import PySem.Challenge.RW_shapewright_k44_tidy_levels
set_option Elab.async false
set_option linter.all false
set_option maxRecDepth 100000
namespace Mir
open PySem PySem.Spec PyProof.Rows L2

inductive W where
  | non
  | bl (b : Bool)
  | int (i : Int)
  | str (x : Str)
  | tup (ws : List W)
  | lro (ws : List W)
  | ref (n : Nat)
  | fn (x : Str)
  | xob (a : Addr)
structure LamA where
  qual : Str
  params : Arguments
  body : Expr
  scope : Scope
  ps : List Str
  fr : List Str
inductive O where
  | lst (ws : List W)
  | dct (kvs : List (Key × W))
  | dtt (kvs : List (List Key × W))
  | lam (A : LamA) (caps : List W)
  | tab (P : Addr) (q : Str)
  | dead
  | frd (kvs : List (Key × W))
  | frt (kvs : List (List Key × W))
  | ins (c : Str) (fs : List (Str × W))
abbrev Sto := List O
abbrev EnvM := List (Option W)

def TuA (K : PySem.W.Frag) (H : Hp) (a : Addr) (xs : List V) : Prop :=
  H a = some (.tup xs) ∨ ∃ (o : Obj) (its : Array Value) (n : Nat), K.lookup a = some o ∧ o.cls = .type "tuple" ∧ o.data = .seq its n ∧ its.size ≤ sizeLine ∧ Vals xs its.toList
def LiA (K : PySem.W.Frag) (H : Hp) (a : Addr) (xs : List V) : Prop :=
  (∃ o, H a = some (.frz o (.lst xs))) ∨ ∃ (o : Obj) (its : Array Value) (n : Nat), K.lookup a = some o ∧ o.cls = .type "list" ∧ o.dict = none ∧ o.data = .seq its n ∧ its.size ≤ sizeLine ∧ Vals xs its.toList
theorem TuA.of {K : PySem.W.Frag} {H : Hp} {a : Addr} {xs : List V} (h : H a = some (.tup xs)) : TuA K H a xs := .inl h
theorem TuA.sq {K : PySem.W.Frag} {H : Hp} {a : Addr} {xs : List V} (h : TuA K H a xs) : SqT K H a xs := by
  rcases h with h | h
  · exact .inl (.inl h)
  · exact .inr h
theorem LiA.sq {K : PySem.W.Frag} {H : Hp} {a : Addr} {xs : List V} (h : LiA K H a xs) : SqL K H a xs := by
  rcases h with h | h
  · exact .inl (.inr h)
  · exact .inr h
mutual
inductive R (K : PySem.W.Frag) (m : List Addr) (H : Hp) : W → V → Prop
  | non : R K m H .non .non
  | bl (b : Bool) : R K m H (.bl b) (.bl b)
  | int (i : Int) : R K m H (.int i) (.int i)
  | str (x : Str) : R K m H (.str x) (.str x)
  | tup {p : Addr} {vs : List V} {ws : List W} : TuA K H p vs → RL K m H ws vs → R K m H (.tup ws) (.ref p)
  | lro {p : Addr} {vs : List V} {ws : List W} : LiA K H p vs → RL K m H ws vs → R K m H (.lro ws) (.ref p)
  | ref {n : Nat} {a : Addr} : m[n]? = some a → R K m H (.ref n) (.ref a)
  | fn {x : Str} {a : Addr} : PySem.W.nsIn K mainGlobals x = some (some (.ref a)) → R K m H (.fn x) (.ref a)
  | xob (a : Addr) : R K m H (.xob a) (.ref a)
inductive RL (K : PySem.W.Frag) (m : List Addr) (H : Hp) : List W → List V → Prop
  | nil : RL K m H [] []
  | cons {w : W} {v : V} {ws : List W} {vs : List V} : R K m H w v → RL K m H ws vs → RL K m H (w :: ws) (v :: vs)
end
inductive RK (K : PySem.W.Frag) (m : List Addr) (H : Hp) : List (Key × W) → List (Key × V) → Prop
  | nil : RK K m H [] []
  | cons {k : Key} {w : W} {v : V} {ws : List (Key × W)} {vs : List (Key × V)} : R K m H w v → RK K m H ws vs → RK K m H ((k, w) :: ws) ((k, v) :: vs)
inductive RF (K : PySem.W.Frag) (m : List Addr) (H : Hp) : List (Str × W) → List (Str × V) → Prop
  | nil : RF K m H [] []
  | cons {k : Str} {w : W} {v : V} {ws : List (Str × W)} {vs : List (Str × V)} : R K m H w v → RF K m H ws vs → RF K m H ((k, w) :: ws) ((k, v) :: vs)
inductive RKT (K : PySem.W.Frag) (m : List Addr) (H : Hp) : List (List Key × W) → List (List Key × V) → Prop
  | nil : RKT K m H [] []
  | cons {k : List Key} {w : W} {v : V} {ws : List (List Key × W)} {vs : List (List Key × V)} : R K m H w v → RKT K m H ws vs → RKT K m H ((k, w) :: ws) ((k, v) :: vs)
structure Adv (m : List Addr) (H : Hp) (m' : List Addr) (H' : Hp) : Prop where
  pre : ∃ t, m' = m ++ t
  same : ∀ a o, H a = some o → a ∉ m → H' a = some o
  new : ∀ a, a ∈ m' → a ∈ m ∨ H a = none
  tup : ∀ a xs, H a = some (.tup xs) → H' a = some (.tup xs)
  frz : ∀ a o u, H a = some (.frz o u) → H' a = some (.frz o u)
theorem Adv.refl (m : List Addr) (H : Hp) : Adv m H m H := ⟨⟨[], by simp⟩, fun _ _ h _ => h, fun _ h => .inl h, fun _ _ h => h, fun _ _ _ h => h⟩
theorem Adv.trans {m m1 m2 : List Addr} {H H1 H2 : Hp} (a : Adv m H m1 H1) (b : Adv m1 H1 m2 H2) : Adv m H m2 H2 := by
  refine ⟨?_, fun x o h n => ?_, fun x h => ?_, fun x xs h => b.tup x xs (a.tup x xs h), fun x o u h => b.frz x o u (a.frz x o u h)⟩
  · obtain ⟨t, rfl⟩ := a.pre
    obtain ⟨t', rfl⟩ := b.pre
    exact ⟨t ++ t', by rw [List.append_assoc]⟩
  · refine b.same x o (a.same x o h n) fun q => ?_
    rcases a.new x q with q | q
    · exact n q
    · rw [h] at q; cases q
  · rcases b.new x h with q | q
    · exact a.new x q
    · by_cases hm : x ∈ m
      · exact .inl hm
      · cases e : H x with
        | none => exact .inr rfl
        | some o =>
          rw [a.same x o e hm] at q
          cases q
structure Ext (m : List Addr) (H : Hp) (m' : List Addr) (H' : Hp) : Prop where
  pre : ∃ t, m' = m ++ t
  tup : ∀ a xs, H a = some (.tup xs) → H' a = some (.tup xs)
  frz : ∀ a o u, H a = some (.frz o u) → H' a = some (.frz o u)
theorem Adv.ext {m m' : List Addr} {H H' : Hp} (a : Adv m H m' H') : Ext m H m' H' := ⟨a.pre, a.tup, a.frz⟩
theorem Ext.get {m m' : List Addr} {H H' : Hp} (a : Ext m H m' H') {n : Nat} {x : Addr} (h : m[n]? = some x) : m'[n]? = some x := by
  obtain ⟨t, rfl⟩ := a.pre
  rw [List.getElem?_append_left (List.getElem?_eq_some_iff.mp h).1]
  exact h
theorem Adv.get {m m' : List Addr} {H H' : Hp} (a : Adv m H m' H') {n : Nat} {x : Addr} (h : m[n]? = some x) : m'[n]? = some x := by
  obtain ⟨t, rfl⟩ := a.pre
  rw [List.getElem?_append_left (List.getElem?_eq_some_iff.mp h).1]
  exact h
section
variable {K : PySem.W.Frag} {m m' : List Addr} {H H' : Hp}
theorem TuA.ext {a : Addr} {xs : List V} (A : Ext m H m' H') (h : TuA K H a xs) : TuA K H' a xs := by
  rcases h with h | h
  · exact .inl (A.tup _ _ h)
  · exact .inr h
theorem LiA.ext {a : Addr} {xs : List V} (A : Ext m H m' H') (h : LiA K H a xs) : LiA K H' a xs := by
  rcases h with ⟨o, h⟩ | h
  · exact .inl ⟨o, A.frz _ _ _ h⟩
  · exact .inr h
mutual
theorem R.ext (A : Ext m H m' H') : ∀ {w : W} {v : V}, R K m H w v → R K m' H' w v
  | .non, _, h => by cases h; exact .non
  | .bl _, _, h => by cases h; exact .bl _
  | .int _, _, h => by cases h; exact .int _
  | .str _, _, h => by cases h; exact .str _
  | .tup ws, _, h => by
    cases h with
    | tup h1 h2 => exact .tup (h1.ext A) (RL.ext A h2)
  | .lro ws, _, h => by
    cases h with
    | lro h1 h2 => exact .lro (h1.ext A) (RL.ext A h2)
  | .ref _, _, h => by
    cases h with
    | ref h1 => exact .ref (A.get h1)
  | .fn _, _, h => by
    cases h with
    | fn h1 => exact .fn h1
  | .xob _, _, h => by
    cases h with
    | xob => exact .xob _
theorem RL.ext (A : Ext m H m' H') : ∀ {ws : List W} {vs : List V}, RL K m H ws vs → RL K m' H' ws vs
  | [], _, h => by cases h; exact .nil
  | w :: ws, _, h => by
    cases h with
    | cons h1 h2 => exact .cons (R.ext A h1) (RL.ext A h2)
end
theorem RK.ext (A : Ext m H m' H') : ∀ {ws : List (Key × W)} {vs : List (Key × V)}, RK K m H ws vs → RK K m' H' ws vs
  | [], _, h => by cases h; exact .nil
  | w :: ws, _, h => by
    cases h with
    | cons h1 h2 => exact .cons (h1.ext A) (RK.ext A h2)
theorem R.adv (A : Adv m H m' H') {w : W} {v : V} (h : R K m H w v) : R K m' H' w v := R.ext A.ext h
theorem RL.adv (A : Adv m H m' H') {w : List W} {v : List V} (h : RL K m H w v) : RL K m' H' w v := RL.ext A.ext h
theorem RK.adv (A : Adv m H m' H') {w : List (Key × W)} {v : List (Key × V)} (h : RK K m H w v) : RK K m' H' w v := RK.ext A.ext h
theorem RKT.ext (A : Ext m H m' H') : ∀ {ws : List (List Key × W)} {vs : List (List Key × V)}, RKT K m H ws vs → RKT K m' H' ws vs
  | [], _, h => by cases h; exact .nil
  | w :: ws, _, h => by
    cases h with
    | cons h1 h2 => exact .cons (h1.ext A) (RKT.ext A h2)
theorem RKT.adv (A : Adv m H m' H') {w : List (List Key × W)} {v : List (List Key × V)} (h : RKT K m H w v) : RKT K m' H' w v := RKT.ext A.ext h
theorem RF.ext (A : Ext m H m' H') : ∀ {ws : List (Str × W)} {vs : List (Str × V)}, RF K m H ws vs → RF K m' H' ws vs
  | [], _, h => by cases h; exact .nil
  | w :: ws, _, h => by
    cases h with
    | cons h1 h2 => exact .cons (h1.ext A) (RF.ext A h2)
theorem RF.adv (A : Adv m H m' H') {w : List (Str × W)} {v : List (Str × V)} (h : RF K m H w v) : RF K m' H' w v := RF.ext A.ext h
theorem RL.len : ∀ {ws : List W} {vs : List V}, RL K m H ws vs → vs.length = ws.length
  | [], _, h => by cases h; rfl
  | w :: ws, _, h => by
    cases h with
    | cons h1 h2 => rw [List.length_cons, List.length_cons, RL.len h2]
theorem RL.get : ∀ {ws : List W} {vs : List V} {i : Nat} {v : V}, RL K m H ws vs → vs[i]? = some v → ∃ w, ws[i]? = some w ∧ R K m H w v
  | [], _, i, x, h, e => by cases h; cases e
  | d :: r, _, 0, x, h, e => by
    cases h with
    | cons h1 h2 => cases e; exact ⟨_, rfl, h1⟩
  | d :: r, _, i + 1, x, h, e => by
    cases h with
    | cons h1 h2 => exact RL.get (i := i) h2 e
theorem RL.at : ∀ {ws : List W} {vs : List V} {i : Nat} {w : W}, RL K m H ws vs → ws[i]? = some w → ∃ v, vs[i]? = some v ∧ R K m H w v
  | [], _, i, x, h, e => by cases e
  | d :: r, _, 0, x, h, e => by
    cases h with
    | cons h1 h2 => cases e; exact ⟨_, rfl, h1⟩
  | d :: r, _, i + 1, x, h, e => by
    cases h with
    | cons h1 h2 => exact RL.at (i := i) h2 e
theorem RL.app : ∀ {ws ws' : List W} {vs vs' : List V}, RL K m H ws vs → RL K m H ws' vs' → RL K m H (ws ++ ws') (vs ++ vs')
  | [], _, _, _, h, g => by cases h; exact g
  | d :: r, _, _, _, h, g => by
    cases h with
    | cons h1 h2 => exact .cons h1 (RL.app h2 g)
theorem RL.take : ∀ {ws : List W} {vs : List V} (n : Nat), RL K m H ws vs → RL K m H (ws.take n) (vs.take n)
  | [], _, n, h => by cases h; rw [List.take_nil, List.take_nil]; exact .nil
  | d :: r, _, 0, h => by rw [List.take_zero, List.take_zero]; exact .nil
  | d :: r, _, n + 1, h => by
    cases h with
    | cons h1 h2 => exact .cons h1 (RL.take n h2)
theorem RL.drop : ∀ {ws : List W} {vs : List V} (n : Nat), RL K m H ws vs → RL K m H (ws.drop n) (vs.drop n)
  | [], _, n, h => by cases h; rw [List.drop_nil, List.drop_nil]; exact .nil
  | d :: r, _, 0, h => h
  | d :: r, _, n + 1, h => by
    cases h with
    | cons h1 h2 => exact RL.drop n h2
theorem RL.set : ∀ {ws : List W} {vs : List V} (n : Nat) {w : W} {v : V}, RL K m H ws vs → R K m H w v → RL K m H (ws.set n w) (vs.set n v)
  | [], _, n, _, _, h, g => by cases h; exact .nil
  | d :: r, _, 0, _, _, h, g => by
    cases h with
    | cons h1 h2 => exact .cons g h2
  | d :: r, _, n + 1, _, _, h, g => by
    cases h with
    | cons h1 h2 => exact .cons h1 (RL.set n h2 g)
theorem RL.dropLast {ws : List W} {vs : List V} (h : RL K m H ws vs) : RL K m H ws.dropLast vs.dropLast := by
  rw [List.dropLast_eq_take, List.dropLast_eq_take, h.len]
  exact h.take _
theorem RL.erase : ∀ {ws : List W} {vs : List V} (n : Nat), RL K m H ws vs → RL K m H (ws.eraseIdx n) (vs.eraseIdx n)
  | [], _, n, h => by cases h; exact .nil
  | d :: r, _, 0, h => by
    cases h with
    | cons h1 h2 => exact h2
  | d :: r, _, n + 1, h => by
    cases h with
    | cons h1 h2 => exact .cons h1 (RL.erase n h2)
theorem RL.one {w : W} {v : V} (h : R K m H w v) : RL K m H [w] [v] := .cons h .nil
theorem RL.at_of {ws : List W} {vs : List V} {i : Int} {w : W} (h : RL K m H ws vs) (e : atI ws i = some w) : ∃ v, atI vs i = some v ∧ R K m H w v := by
  unfold atI at e ⊢
  rw [h.len]
  cases q : ixN ws.length i with
  | none => rw [q] at e; cases e
  | some j =>
    rw [q] at e
    exact h.at e
theorem RL.cut {ws : List W} {vs : List V} (h : RL K m H ws vs) (lo hi : Option Int) :
    RL K m H ((ws.drop (HT.sIx ws.length 0 lo)).take (HT.sIx ws.length ws.length hi - HT.sIx ws.length 0 lo)) (cutV vs lo hi) := by
  unfold cutV
  rw [h.len]
  exact (h.drop _).take _

def CodeP (H : Hp) (c : Addr) (q : Str) : Prop := ∃ (oc : Obj) (u : HO) (vs : Array Value) (t : Tok), H c = some (.frz oc u) ∧ oc.data = .fields vs ∧ vs[1]? = some (.str q t) ∧ (∀ ws, u ≠ .dK ws) ∧ ∀ ws, u ≠ .dT ws
structure ClO (H : Hp) (cl : List (Str × Addr)) (fr : List Str) (cvs : List V) : Prop where
  len : cvs.length = fr.length
  dom : ∀ y k, cl.lookup y = some k → y ∈ fr
  inj : ∀ x y k, cl.lookup x = some k → cl.lookup y = some k → x = y
  at_ : ∀ (i : Nat) (y : Str), fr[i]? = some y → ∃ (k : Addr) (ok : Obj) (uv : Value) (v : V), cvs[i]? = some v ∧ cl.lookup y = some k ∧ H k = some (.frz ok (.own 0)) ∧ ok.data = .cell (some uv) ∧ RelV v uv
def LamP (K : PySem.W.Frag) (m : List Addr) (H : Hp) (a : Addr) (A : LamA) (caps : List W) : Prop :=
  ∃ (cl : List (Str × Addr)) (c : Addr) (pm ctv : Value) (cvs : List V), H a = some (.frz (PySem.W.kla_obj "<lambda>" A.qual A.params A.body A.scope cl pm c ctv) (.own 0)) ∧ CodeP H c A.qual ∧ ClO H cl A.fr cvs ∧ RL K m H caps cvs
def TabP (H : Hp) (P : Addr) (q : Str) : Prop := ∃ ps : Array Value, H P = some (.tbl ps) ∧ TriplesOk ps.toList ∧ ∀ (pos : Pos) (cv : Value), codeAmong pos ps.toList = some cv → ∃ c, cv = .ref c ∧ CodeP H c q
theorem CodeP.ext (A : Ext m H m' H') {c : Addr} {q : Str} (h : CodeP H c q) : CodeP H' c q := by
  obtain ⟨oc, u, vs, t, h1, h2, h3⟩ := h
  exact ⟨oc, u, vs, t, A.frz _ _ _ h1, h2, h3⟩
theorem ClO.ext (A : Ext m H m' H') {cl : List (Str × Addr)} {fr : List Str} {cvs : List V} (h : ClO H cl fr cvs) : ClO H' cl fr cvs :=
  ⟨h.len, h.dom, h.inj, fun i y e => by
    obtain ⟨k, ok, uv, v, h1, h2, h3, h4⟩ := h.at_ i y e
    exact ⟨k, ok, uv, v, h1, h2, A.frz _ _ _ h3, h4⟩⟩
theorem LamP.ext (A : Ext m H m' H') {a : Addr} {L : LamA} {caps : List W} (h : LamP K m H a L caps) : LamP K m' H' a L caps := by
  obtain ⟨cl, c, pm, ctv, cvs, h1, h2, h3, h4⟩ := h
  exact ⟨cl, c, pm, ctv, cvs, A.frz _ _ _ h1, h2.ext A, h3.ext A, h4.ext A⟩
theorem TabP.ext (A : Ext m H m' H') {P : Addr} {q : Str} (h : TabP H P q) (e : H' P = H P) : TabP H' P q := by
  obtain ⟨ps, h1, h2, h3⟩ := h
  refine ⟨ps, by rw [e]; exact h1, h2, fun pos cv hc => ?_⟩
  obtain ⟨c, e1, e2⟩ := h3 pos cv hc
  exact ⟨c, e1, e2.ext A⟩
def OR (K : PySem.W.Frag) (m : List Addr) (H : Hp) (a : Addr) : O → Prop
  | .lst ws => ∃ vs, H a = some (.lst vs) ∧ RL K m H ws vs
  | .dct kvs => ∃ vs, H a = some (.dK vs) ∧ RK K m H kvs vs
  | .dtt kvs => ∃ vs, H a = some (.dT vs) ∧ RKT K m H kvs vs
  | .lam A caps => LamP K m H a A caps
  | .tab P q => a = P ∧ TabP H P q
  | .dead => ∃ o, H a = some (.frz o (.own 0)) ∧ ∀ v, o.data ≠ .cell v
  | .frd kvs => ∃ o vs, H a = some (.frz o (.dK vs)) ∧ RK K m H kvs vs
  | .frt kvs => ∃ o vs, H a = some (.frz o (.dT vs)) ∧ RKT K m H kvs vs
  | .ins c fs => ∃ C dx vs, H a = some (.ins C dx vs) ∧ PySem.W.nsIn K mainGlobals c = some (some (.ref C)) ∧ RF K m H fs vs
structure SR (K : PySem.W.Frag) (m : List Addr) (H : Hp) (st : Sto) : Prop where
  len : m.length = st.length
  nd : m.Nodup
  ok : ∀ (n : Nat) (a : Addr) (o : O), m[n]? = some a → st[n]? = some o → OR K m H a o
def hoOk : O → HO → Prop
  | .lst _, .lst _ => True
  | .dct _, .dK _ => True
  | _, _ => False
theorem SR.at {st : Sto} (S : SR K m H st) {n : Nat} {o : O} (h : st[n]? = some o) : ∃ a, m[n]? = some a ∧ OR K m H a o := by
  have hl : n < m.length := by rw [S.len]; exact (List.getElem?_eq_some_iff.mp h).1
  exact ⟨m[n], List.getElem?_eq_getElem hl, S.ok n _ o (List.getElem?_eq_getElem hl) h⟩
theorem SR.there {st : Sto} (S : SR K m H st) {a : Addr} (h : a ∈ m) : ∃ u, H a = some u ∧ ((∃ vs, u = .lst vs) ∨ (∃ vs, u = .dK vs) ∨ (∃ o x, u = .frz o x) ∨ (∃ ps, u = .tbl ps) ∨ (∃ vs, u = .dT vs) ∨ ∃ C dx vs, u = .ins C dx vs) := by
  obtain ⟨n, hn, rfl⟩ := List.mem_iff_getElem.mp h
  have hl : n < st.length := by rw [← S.len]; exact hn
  have q := S.ok n m[n] st[n] (List.getElem?_eq_getElem hn) (List.getElem?_eq_getElem hl)
  cases e : st[n] with
  | lst ws => rw [e] at q; obtain ⟨vs, q, _⟩ := q; exact ⟨_, q, .inl ⟨_, rfl⟩⟩
  | dct ws => rw [e] at q; obtain ⟨vs, q, _⟩ := q; exact ⟨_, q, .inr (.inl ⟨_, rfl⟩)⟩
  | lam A caps => rw [e] at q; obtain ⟨cl, c, pm, ctv, cvs, q, _⟩ := q; exact ⟨_, q, .inr (.inr (.inl ⟨_, _, rfl⟩))⟩
  | tab P qn => rw [e] at q; obtain ⟨e1, ps, q, _⟩ := q; rw [e1]; exact ⟨_, q, .inr (.inr (.inr (.inl ⟨_, rfl⟩)))⟩
  | dtt ws => rw [e] at q; obtain ⟨vs, q, _⟩ := q; exact ⟨_, q, .inr (.inr (.inr (.inr (.inl ⟨_, rfl⟩))))⟩
  | ins c fs => rw [e] at q; obtain ⟨C, dx, vs, q, _⟩ := q; exact ⟨_, q, .inr (.inr (.inr (.inr (.inr ⟨_, _, _, rfl⟩))))⟩
  | dead => rw [e] at q; obtain ⟨o, q, _⟩ := q; exact ⟨_, q, .inr (.inr (.inl ⟨_, _, rfl⟩))⟩
  | frd kvs => rw [e] at q; obtain ⟨o, vs, q, _⟩ := q; exact ⟨_, q, .inr (.inr (.inl ⟨_, _, rfl⟩))⟩
  | frt kvs => rw [e] at q; obtain ⟨o, vs, q, _⟩ := q; exact ⟨_, q, .inr (.inr (.inl ⟨_, _, rfl⟩))⟩
theorem OR.ext (A : Ext m H m' H') {a : Addr} {o : O} (h : OR K m H a o) (e : H' a = H a) : OR K m' H' a o := by
  cases o with
  | lst ws => obtain ⟨vs, q, r⟩ := h; exact ⟨vs, by rw [e]; exact q, r.ext A⟩
  | dct ws => obtain ⟨vs, q, r⟩ := h; exact ⟨vs, by rw [e]; exact q, r.ext A⟩
  | dtt ws => obtain ⟨vs, q, r⟩ := h; exact ⟨vs, by rw [e]; exact q, r.ext A⟩
  | lam L caps => exact LamP.ext A h
  | tab P q => obtain ⟨e1, t⟩ := h; subst e1; exact ⟨rfl, t.ext A e⟩
  | dead => obtain ⟨o, q, n⟩ := h; exact ⟨o, by rw [e]; exact q, n⟩
  | frd kvs => obtain ⟨o, vs, q, r⟩ := h; exact ⟨o, vs, by rw [e]; exact q, r.ext A⟩
  | frt kvs => obtain ⟨o, vs, q, r⟩ := h; exact ⟨o, vs, by rw [e]; exact q, r.ext A⟩
  | ins c fs => obtain ⟨C, dx, vs, q, n, r⟩ := h; exact ⟨C, dx, vs, by rw [e]; exact q, n, r.ext A⟩
theorem OR.adv (A : Adv m H m' H') {a : Addr} {o : O} (h : OR K m H a o) (e : H' a = H a) : OR K m' H' a o := h.ext A.ext e
theorem Ext.join (D : Addr) : Ext m H (m ++ [D]) H := ⟨⟨[D], rfl⟩, fun _ _ h => h, fun _ _ _ h => h⟩
theorem SR.join {st : Sto} (S : SR K m H st) {p : Addr} {u : O} (hpm : p ∉ m) (h : OR K m H p u) : SR K (m ++ [p]) H (st ++ [u]) := by
  refine ⟨by rw [List.length_append, List.length_append, S.len]; rfl, List.nodup_append.mpr ⟨S.nd, by simp, fun a ha b hb => ?_⟩, fun n a o' h1 h2 => ?_⟩
  · rw [List.mem_singleton.mp hb]
    rintro rfl
    exact hpm ha
  · by_cases hn : n < m.length
    · rw [List.getElem?_append_left hn] at h1
      rw [List.getElem?_append_left (by rw [← S.len]; exact hn)] at h2
      exact (S.ok n a o' h1 h2).ext (Ext.join p) rfl
    · have e : n = m.length := by
        have := (List.getElem?_eq_some_iff.mp h1).1
        rw [List.length_append, List.length_singleton] at this
        omega
      subst e
      rw [List.getElem?_append_right (Nat.le_refl _), Nat.sub_self] at h1
      rw [S.len, List.getElem?_append_right (Nat.le_refl _), Nat.sub_self] at h2
      cases h1
      cases h2
      exact h.ext (Ext.join p) rfl
theorem Ext.off {D : Addr} {xs : List V} {o : HO} (h : H D = some (.lst xs)) : Ext m H m (upd H D o) :=
  ⟨⟨[], by simp⟩, fun a ys e => by rw [upd_ne (ne_of e h (fun z => by cases z))]; exact e, fun a u y e => by rw [upd_ne (ne_of e h (fun z => by cases z))]; exact e⟩
theorem SR.off {st : Sto} (S : SR K m H st) {D : Addr} {xs : List V} {o : HO} (hD : D ∉ m) (h : H D = some (.lst xs)) : SR K m (upd H D o) st :=
  ⟨S.len, S.nd, fun n a u h1 h2 => (S.ok n a u h1 h2).ext (Ext.off h) (upd_ne fun z => hD (by rw [← z]; exact List.mem_of_getElem? h1))⟩
theorem Adv.fresh {p : Addr} {o : HO} (hp : H p = none) : Adv m H m (upd H p o) :=
  ⟨⟨[], by simp⟩, fun a u h _ => by rw [upd_ne (ne_of_none h hp)]; exact h, fun _ h => .inl h, fun a xs h => by rw [upd_ne (ne_of_none h hp)]; exact h, fun a o u h => by rw [upd_ne (ne_of_none h hp)]; exact h⟩
theorem SR.fresh {st : Sto} (S : SR K m H st) {p : Addr} {o : HO} (hp : H p = none) : SR K m (upd H p o) st :=
  ⟨S.len, S.nd, fun n a u h1 h2 => by
    refine (S.ok n a u h1 h2).adv (Adv.fresh hp) ?_
    obtain ⟨u', h, _⟩ := S.there (List.mem_of_getElem? h1)
    rw [upd_ne (ne_of_none h hp)]⟩
theorem Adv.alloc {p : Addr} {o : HO} (hp : H p = none) : Adv m H (m ++ [p]) (upd H p o) :=
  ⟨⟨[p], rfl⟩, fun a u h _ => by rw [upd_ne (ne_of_none h hp)]; exact h, fun a h => by
    rcases List.mem_append.mp h with h | h
    · exact .inl h
    · rw [List.mem_singleton.mp h]; exact .inr hp, fun a xs h => by rw [upd_ne (ne_of_none h hp)]; exact h, fun a o u h => by rw [upd_ne (ne_of_none h hp)]; exact h⟩
theorem SR.alloc {st : Sto} (S : SR K m H st) {p : Addr} {o : HO} {u : O} (hp : H p = none) (h : OR K (m ++ [p]) (upd H p o) p u) : SR K (m ++ [p]) (upd H p o) (st ++ [u]) := by
  have hpm : p ∉ m := fun q => by
    obtain ⟨u, e, _⟩ := S.there q
    rw [hp] at e; cases e
  refine ⟨by rw [List.length_append, List.length_append, S.len]; rfl, List.nodup_append.mpr ⟨S.nd, by simp, fun a ha b hb => ?_⟩, fun n a o' h1 h2 => ?_⟩
  · rw [List.mem_singleton.mp hb]
    rintro rfl
    exact hpm ha
  · by_cases hn : n < m.length
    · rw [List.getElem?_append_left hn] at h1
      rw [List.getElem?_append_left (by rw [← S.len]; exact hn)] at h2
      refine (S.ok n a o' h1 h2).adv (Adv.alloc hp) ?_
      obtain ⟨u', h, _⟩ := S.there (List.mem_of_getElem? h1)
      rw [upd_ne (ne_of_none h hp)]
    · have e : n = m.length := by
        have := (List.getElem?_eq_some_iff.mp h1).1
        rw [List.length_append, List.length_singleton] at this
        omega
      subst e
      rw [List.getElem?_append_right (Nat.le_refl _), Nat.sub_self] at h1
      rw [S.len, List.getElem?_append_right (Nat.le_refl _), Nat.sub_self] at h2
      cases h1
      cases h2
      exact h
theorem alloc_at {st : Sto} (S : SR K m H st) {p : Addr} {H' : Hp} : R K (m ++ [p]) H' (.ref st.length) (.ref p) := by
  refine .ref ?_
  rw [← S.len, List.getElem?_append_right (Nat.le_refl _), Nat.sub_self]
  rfl
def WrK (H : Hp) (a : Addr) : Prop := ∃ u, H a = some u ∧ ((∃ vs, u = .lst vs) ∨ (∃ vs, u = .dK vs))
theorem Adv.write {st : Sto} (S : SR K m H st) {n : Nat} {a : Addr} {o : HO} (h : m[n]? = some a) (wk : WrK H a) : Adv m H m (upd H a o) := by
  have ha := List.mem_of_getElem? h
  obtain ⟨u, e, k⟩ := wk
  refine ⟨⟨[], by simp⟩, fun b u h n => ?_, fun _ h => .inl h, fun b xs h => ?_, fun b o u h => ?_⟩
  · rw [upd_ne (fun z => n (by rw [z]; exact ha))]; exact h
  · rw [upd_ne (fun z => ?_)]
    · exact h
    · rw [z, e] at h
      rcases k with ⟨_, rfl⟩ | ⟨_, rfl⟩ <;> cases h
  · rw [upd_ne (fun z => ?_)]
    · exact h
    · rw [z, e] at h
      rcases k with ⟨_, rfl⟩ | ⟨_, rfl⟩ <;> cases h
theorem SR.write {st : Sto} (S : SR K m H st) {n : Nat} {a : Addr} {o : HO} {u : O} (h : m[n]? = some a) (wk : WrK H a) (hu : OR K m (upd H a o) a u) : SR K m (upd H a o) (st.set n u) := by
  refine ⟨by rw [List.length_set]; exact S.len, S.nd, fun j b o' h1 h2 => ?_⟩
  by_cases e : n = j
  · subst e
    rw [h] at h1
    cases h1
    have hl : n < st.length := by rw [← S.len]; exact (List.getElem?_eq_some_iff.mp h).1
    rw [List.getElem?_set_self hl] at h2
    cases h2
    exact hu
  · rw [List.getElem?_set_ne e] at h2
    have hne : b ≠ a := fun z => by
      subst z
      obtain ⟨l1, e1⟩ := List.getElem?_eq_some_iff.mp h
      obtain ⟨l2, e2⟩ := List.getElem?_eq_some_iff.mp h1
      exact e ((List.getElem_inj S.nd).mp (e1.trans e2.symm))
    exact (S.ok j b o' h1 h2).adv (Adv.write S h wk) (upd_ne hne)
def EQ (K : PySem.W.Frag) (m : List Addr) (H : Hp) : Option W → Option V → Prop
  | some w, some v => R K m H w v
  | none, _ => True
  | some _, none => False
inductive ER (K : PySem.W.Frag) (m : List Addr) (H : Hp) : EnvM → List (Option V) → Prop
  | nil : ER K m H [] []
  | cons {x : Option W} {y : Option V} {ρ : EnvM} {σ : List (Option V)} : EQ K m H x y → ER K m H ρ σ → ER K m H (x :: ρ) (y :: σ)
theorem EQ.adv (A : Adv m H m' H') : ∀ {x : Option W} {y : Option V}, EQ K m H x y → EQ K m' H' x y
  | some _, some _, h => R.adv A h
  | none, _, _ => trivial
  | some _, none, h => h
theorem ER.adv (A : Adv m H m' H') : ∀ {ρ : EnvM} {σ : List (Option V)}, ER K m H ρ σ → ER K m' H' ρ σ
  | _, _, .nil => .nil
  | _, _, .cons h t => .cons (h.adv A) (t.adv A)
theorem ER.get : ∀ {ρ : EnvM} {σ : List (Option V)} {i : Nat} {w : W}, ER K m H ρ σ → ρ[i]? = some (some w) → ∃ v, σ[i]? = some (some v) ∧ R K m H w v
  | _, _, _, _, .nil, e => by cases e
  | _, _, 0, w, .cons (x := x) (y := y) h t, e => by
    cases e
    cases y with
    | none => exact False.elim h
    | some v => exact ⟨v, rfl, h⟩
  | _, _, i + 1, w, .cons h t, e => ER.get (i := i) t e
theorem ER.set : ∀ {ρ : EnvM} {σ : List (Option V)} (i : Nat) {w : W} {v : V}, ER K m H ρ σ → R K m H w v → ER K m H (ρ.set i (some w)) (σ.set i (some v))
  | _, _, _, _, _, .nil, r => .nil
  | _, _, 0, w, _, .cons h t, r => .cons r t
  | _, _, i + 1, w, _, .cons h t, r => .cons h (ER.set i t r)
theorem ER.forget : ∀ {ρ : EnvM} {σ : List (Option V)} (i : Nat), ER K m H ρ σ → ER K m H (ρ.set i none) (σ.set i none)
  | _, _, _, .nil => .nil
  | _, _, 0, .cons h t => .cons trivial t
  | _, _, i + 1, .cons h t => .cons h (ER.forget i t)
theorem ER.len : ∀ {ρ : EnvM} {σ : List (Option V)}, ER K m H ρ σ → ρ.length = σ.length
  | _, _, .nil => rfl
  | _, _, .cons h t => by rw [List.length_cons, List.length_cons, ER.len t]
theorem ER.nones (n : Nat) : ER K m H (List.replicate n none) (List.replicate n none) := by
  induction n with
  | zero => exact .nil
  | succ n ih => exact .cons trivial ih
theorem ER.app : ∀ {ρ ρ' : EnvM} {σ σ' : List (Option V)}, ER K m H ρ σ → ER K m H ρ' σ' → ER K m H (ρ ++ ρ') (σ ++ σ')
  | _, _, _, _, .nil, g => g
  | _, _, _, _, .cons h t, g => .cons h (ER.app t g)
theorem RL.env : ∀ {ws : List W} {vs : List V}, RL K m H ws vs → ER K m H (ws.map some) (vs.map some)
  | [], _, h => by cases h; exact .nil
  | w :: ws, _, h => by
    cases h with
    | cons h1 h2 => exact .cons h1 (RL.env h2)
end
end Mir

set_option Elab.async false
set_option linter.all false
set_option maxRecDepth 100000
namespace Mir
open PySem PySem.Spec PyProof.Rows L2

abbrev Rz (α : Type) := Option (α × Sto)
def bd {α β : Type} (x : Rz α) (f : α → Sto → Rz β) : Rz β := match x with
  | some (a, s) => f a s
  | none => none
theorem bd_some {α β : Type} {a : α} {s : Sto} {f : α → Sto → Rz β} : bd (some (a, s)) f = f a s := rfl
theorem bd_none {α β : Type} {f : α → Sto → Rz β} : bd (none : Rz α) f = none := rfl
theorem bd_inv {α β : Type} {x : Rz α} {f : α → Sto → Rz β} {r : β × Sto} (h : bd x f = some r) : ∃ a s, x = some (a, s) ∧ f a s = some r := by
  cases x with
  | none => cases h
  | some p => exact ⟨p.1, p.2, rfl, h⟩
abbrev FE := EnvM → Sto → Rz W
abbrev FT := EnvM → Sto → Rz Bool
abbrev FA := EnvM → Sto → Rz (List W)
abbrev FP := EnvM → Sto → Rz (Option Int)
inductive Out where
  | nx (ρ : EnvM)
  | rt (w : W)
  | bk (ρ : EnvM)
  | ct (ρ : EnvM)
abbrev FS := EnvM → Sto → Rz Out

def wE (K : PySem.W.Frag) (m : List Addr) (H : Hp) (r : Rz W) (Q : VK) : Prop := ∃ w s, r = some (w, s) ∧ ∀ m' H' v, Adv m H m' H' → SR K m' H' s → R K m' H' w v → Q v H'
def wT (K : PySem.W.Frag) (m : List Addr) (H : Hp) (r : Rz Bool) (Q : Bool → Hp → Prop) : Prop := ∃ b s, r = some (b, s) ∧ ∀ m' H', Adv m H m' H' → SR K m' H' s → Q b H'
def wA (K : PySem.W.Frag) (m : List Addr) (H : Hp) (r : Rz (List W)) (Q : List V → Hp → Prop) : Prop := ∃ ws s, r = some (ws, s) ∧ ∀ m' H' vs, Adv m H m' H' → SR K m' H' s → RL K m' H' ws vs → Q vs H'
def wP (K : PySem.W.Frag) (m : List Addr) (H : Hp) (r : Rz (Option Int)) (Q : Option Int → Hp → Prop) : Prop := ∃ i s, r = some (i, s) ∧ ∀ m' H', Adv m H m' H' → SR K m' H' s → Q i H'
def outE (K : PySem.W.Frag) (m : List Addr) (H : Hp) (s : Sto) (D : Ends) : Out → Prop
  | .nx ρ => ∀ m' H' σ', Adv m H m' H' → SR K m' H' s → ER K m' H' ρ σ' → D.nx σ' H'
  | .bk ρ => ∀ m' H' σ', Adv m H m' H' → SR K m' H' s → ER K m' H' ρ σ' → D.bk σ' H'
  | .ct ρ => ∀ m' H' σ', Adv m H m' H' → SR K m' H' s → ER K m' H' ρ σ' → D.ct σ' H'
  | .rt w => ∀ m' H' v, Adv m H m' H' → SR K m' H' s → R K m' H' w v → D.rt v H'
def wS (K : PySem.W.Frag) (m : List Addr) (H : Hp) (r : Rz Out) (D : Ends) : Prop := ∃ o s, r = some (o, s) ∧ outE K m H s D o
def tF (K : PySem.W.Frag) (f : FE) : TE := fun σ H Q => ∃ m ρ s, ER K m H ρ σ ∧ SR K m H s ∧ wE K m H (f ρ s) Q
def tT (K : PySem.W.Frag) (f : FT) : TT := fun σ H Q => ∃ m ρ s, ER K m H ρ σ ∧ SR K m H s ∧ wT K m H (f ρ s) Q
def tA (K : PySem.W.Frag) (f : FA) : TA := fun σ H Q => ∃ m ρ s, ER K m H ρ σ ∧ SR K m H s ∧ wA K m H (f ρ s) Q
def tP (K : PySem.W.Frag) (f : FP) : TO := fun σ H Q => ∃ m ρ s, ER K m H ρ σ ∧ SR K m H s ∧ wP K m H (f ρ s) Q
def tS (K : PySem.W.Frag) (f : FS) : TS := fun D σ H => ∃ m ρ s, ER K m H ρ σ ∧ SR K m H s ∧ wS K m H (f ρ s) D
def OpF (K : PySem.W.Frag) (r : R2) (g : W → W → Sto → Rz W) : Prop := ∀ m H s x y v u Q, SR K m H s → R K m H x v → R K m H y u → wE K m H (g x y s) Q → r v u H Q
def UnF (K : PySem.W.Frag) (r : V → Hp → VK → Prop) (g : W → Sto → Rz W) : Prop := ∀ m H s x v Q, SR K m H s → R K m H x v → wE K m H (g x s) Q → r v H Q
def CallF (K : PySem.W.Frag) (r : List V → Hp → VK → Prop) (g : List W → Sto → Rz W) : Prop := ∀ m H s ws vs Q, SR K m H s → RL K m H ws vs → wE K m H (g ws s) Q → r vs H Q
def MtF (K : PySem.W.Frag) (r : V → List V → Hp → VK → Prop) (g : W → List W → Sto → Rz W) : Prop := ∀ m H s x v ws vs Q, SR K m H s → R K m H x v → RL K m H ws vs → wE K m H (g x ws s) Q → r v vs H Q
def SlF (K : PySem.W.Frag) (r : V → Option Int → Option Int → Hp → VK → Prop) (g : W → Option Int → Option Int → Sto → Rz W) : Prop := ∀ m H s x v lo hi Q, SR K m H s → R K m H x v → wE K m H (g x lo hi s) Q → r v lo hi H Q

section
variable {X : Cx}
theorem _root_.L2.PE.imp {e : Expr} {t t' : TE} (h : PE X e t) (q : ∀ σ H Q, t' σ H Q → t σ H Q) : PE X e t' := ⟨fun pins s σ H Q I r => h.run pins s σ H Q I (q _ _ _ r)⟩
theorem _root_.L2.PT.imp {e : Expr} {t t' : TT} (h : PT X e t) (q : ∀ σ H Q, t' σ H Q → t σ H Q) : PT X e t' := ⟨fun pins s σ H Q I r => h.run pins s σ H Q I (q _ _ _ r)⟩
theorem _root_.L2.PW.imp {e : Expr} {t t' : TT} (h : PW X e t) (q : ∀ σ H Q, t' σ H Q → t σ H Q) : PW X e t' := ⟨fun whole pins s σ H Q I r => h.run whole pins s σ H Q I (q _ _ _ r)⟩
theorem _root_.L2.PA.imp {e : List Expr} {t t' : TA} (h : PA X e t) (q : ∀ σ H Q, t' σ H Q → t σ H Q) : PA X e t' := ⟨fun pos pins s σ H Q I r => h.run pos pins s σ H Q I (q _ _ _ r)⟩
theorem _root_.L2.PS.imp {st : Stmt} {t t' : TS} (h : PS X st t) (q : ∀ D σ H, t' D σ H → t D σ H) : PS X st t' := ⟨fun pins s σ H D I r => h.run pins s σ H D I (q _ _ _ r)⟩
theorem _root_.L2.PSs.imp {st : List Stmt} {t t' : TS} (h : PSs X st t) (q : ∀ D σ H, t' D σ H → t D σ H) : PSs X st t' := ⟨fun pins s σ H D I r => h.run pins s σ H D I (q _ _ _ r)⟩
theorem _root_.L2.PO.imp {e : Option Expr} {t t' : TO} (h : PO X e t) (q : ∀ σ H Q, t' σ H Q → t σ H Q) : PO X e t' := by
  cases h with
  | mk run => exact ⟨fun pins s σ H Q I r => run pins s σ H Q I (q _ _ _ r)⟩
theorem wE.adv {K : PySem.W.Frag} {m m1 : List Addr} {H H1 : Hp} {r : Rz W} {Q : VK} (h : wE K m H r Q) (A : Adv m H m1 H1) : wE K m1 H1 r Q := by
  obtain ⟨w, s, e, q⟩ := h
  exact ⟨w, s, e, fun m' H' v A' => q m' H' v (A.trans A')⟩
theorem wT.adv {K : PySem.W.Frag} {m m1 : List Addr} {H H1 : Hp} {r : Rz Bool} {Q : Bool → Hp → Prop} (h : wT K m H r Q) (A : Adv m H m1 H1) : wT K m1 H1 r Q := by
  obtain ⟨w, s, e, q⟩ := h
  exact ⟨w, s, e, fun m' H' A' => q m' H' (A.trans A')⟩
theorem wA.adv {K : PySem.W.Frag} {m m1 : List Addr} {H H1 : Hp} {r : Rz (List W)} {Q : List V → Hp → Prop} (h : wA K m H r Q) (A : Adv m H m1 H1) : wA K m1 H1 r Q := by
  obtain ⟨w, s, e, q⟩ := h
  exact ⟨w, s, e, fun m' H' v A' => q m' H' v (A.trans A')⟩
theorem outE.adv {K : PySem.W.Frag} {m m1 : List Addr} {H H1 : Hp} {s : Sto} {D : Ends} {o : Out} (h : outE K m H s D o) (A : Adv m H m1 H1) : outE K m1 H1 s D o := by
  cases o with
  | nx ρ => exact fun m' H' σ' A' => h m' H' σ' (A.trans A')
  | bk ρ => exact fun m' H' σ' A' => h m' H' σ' (A.trans A')
  | ct ρ => exact fun m' H' σ' A' => h m' H' σ' (A.trans A')
  | rt w => exact fun m' H' σ' A' => h m' H' σ' (A.trans A')
theorem wS.adv {K : PySem.W.Frag} {m m1 : List Addr} {H H1 : Hp} {r : Rz Out} {D : Ends} (h : wS K m H r D) (A : Adv m H m1 H1) : wS K m1 H1 r D := by
  obtain ⟨o, s, e, q⟩ := h
  exact ⟨o, s, e, q.adv A⟩
def eVar (i : Nat) : FE := fun ρ s => match ρ[i]? with
  | some (some w) => some (w, s)
  | _ => none
theorem eVar_at {i : Nat} {ρ : EnvM} {s : Sto} {w : W} (h : ρ[i]? = some (some w)) : eVar i ρ s = some (w, s) := by unfold eVar; rw [h]
def eC (w : W) : FE := fun _ s => some (w, s)
theorem eVar_inv {i : Nat} {ρ : EnvM} {s : Sto} {r : W × Sto} (h : eVar i ρ s = some r) : ρ[i]? = some (some r.1) ∧ s = r.2 := by
  unfold eVar at h
  cases e : ρ[i]? with
  | none => rw [e] at h; cases h
  | some o =>
    cases o with
    | none => rw [e] at h; cases h
    | some w => rw [e] at h; cases h; exact ⟨rfl, rfl⟩
variable {e a b : Expr} {es : List Expr} {pos : Pos}
theorem m_var (i : Nat) {x : Str} (hN : X.N[i]? = some x := by rfl) (hv : Vis X.env.scope x := by first | exact Or.inl rfl | exact Or.inr (Or.inl rfl) | exact Or.inr (Or.inr rfl)) (hd : (x == ("__debug__" : Str)) = false := by decide)
    (hcd : (x == ("__classdict__" : Str)) = false := by decide) : PE X (.Name x pos) (tF X.K (eVar i)) := (pe_var hN hv hd hcd).imp fun σ H Q ⟨m, ρ, s, er, sr, w, s', h, q⟩ => by
  obtain ⟨h1, h2⟩ := eVar_inv h
  obtain ⟨v, hv, r⟩ := er.get h1
  have h2 : s = s' := h2
  subst h2
  exact ⟨v, hv, q m H v (Adv.refl m H) sr r⟩
theorem m_c {v : V} {w : W} (h : PE X e (tC v)) (r : ∀ m H, R X.K m H w v) : PE X e (tF X.K (eC w)) := h.imp fun σ H Q ⟨m, ρ, s, er, sr, w', s', e', q⟩ => by
  cases e'
  exact q m H v (Adv.refl m H) sr (r m H)
theorem m_int {i j} : PE X (.Constant (.int i) j pos) (tF X.K (eC (.int i))) := m_c pe_int fun _ _ => .int _
theorem m_bl {i j} : PE X (.Constant (.bool i) j pos) (tF X.K (eC (.bl i))) := m_c pe_bl fun _ _ => .bl _
theorem m_non {j} : PE X (.Constant .none j pos) (tF X.K (eC .non)) := m_c pe_non fun _ _ => .non
theorem m_str {x j} : PE X (.Constant (.str x) j pos) (tF X.K (eC (.str x))) := m_c pe_str fun _ _ => .str _

def eOp (g : W → W → Sto → Rz W) (a b : FE) : FE := fun ρ s => bd (a ρ s) fun x s1 => bd (b ρ s1) fun y s2 => g x y s2
def eUn (g : W → Sto → Rz W) (a : FE) : FE := fun ρ s => bd (a ρ s) fun x s1 => g x s1
def aNil : FA := fun _ s => some ([], s)
def aCons (a : FE) (r : FA) : FA := fun ρ s => bd (a ρ s) fun x s1 => bd (r ρ s1) fun xs s2 => some (x :: xs, s2)
def eFn (g : List W → Sto → Rz W) (a : FA) : FE := fun ρ s => bd (a ρ s) fun xs s1 => g xs s1
def eMt (c : W → Sto → Bool) (g : W → List W → Sto → Rz W) (o : FE) (a : FA) : FE := fun ρ s => bd (o ρ s) fun x s1 => if c x s1 = true then bd (a ρ s1) fun xs s2 => g x xs s2 else none
theorem tF_op {K : PySem.W.Frag} {r : R2} {g : W → W → Sto → Rz W} {fa fb : FE} (hg : OpF K r g) : ∀ σ H Q, tF K (eOp g fa fb) σ H Q → tOp r (tF K fa) (tF K fb) σ H Q := by
  rintro σ H Q ⟨m, ρ, s, er, sr, w, s', e, q⟩
  obtain ⟨x, s1, e1, e⟩ := bd_inv e
  obtain ⟨y, s2, e2, e⟩ := bd_inv e
  exact ⟨m, ρ, s, er, sr, x, s1, e1, fun m1 H1 v A1 S1 r1 => ⟨m1, ρ, s1, er.adv A1, S1, y, s2, e2, fun m2 H2 u A2 S2 r2 =>
    hg m2 H2 s2 x y v u Q S2 (r1.adv A2) r2 ⟨w, s', e, fun m3 H3 z A3 => q m3 H3 z ((A1.trans A2).trans A3)⟩⟩⟩
theorem tF_un {K : PySem.W.Frag} {r : V → Hp → VK → Prop} {g : W → Sto → Rz W} {fa : FE} (hg : UnF K r g) : ∀ σ H Q, tF K (eUn g fa) σ H Q → tUn r (tF K fa) σ H Q := by
  rintro σ H Q ⟨m, ρ, s, er, sr, w, s', e, q⟩
  obtain ⟨x, s1, e1, e⟩ := bd_inv e
  exact ⟨m, ρ, s, er, sr, x, s1, e1, fun m1 H1 v A1 S1 r1 => hg m1 H1 s1 x v Q S1 r1 ⟨w, s', e, fun m3 H3 z A3 => q m3 H3 z (A1.trans A3)⟩⟩
theorem tF_fn {K : PySem.W.Frag} {r : List V → Hp → VK → Prop} {g : List W → Sto → Rz W} {fa : FA} (hg : CallF K r g) : ∀ σ H Q, tF K (eFn g fa) σ H Q → (fun σ H Q => tA K fa σ H fun vs H1 => r vs H1 Q : TE) σ H Q := by
  rintro σ H Q ⟨m, ρ, s, er, sr, w, s', e, q⟩
  obtain ⟨x, s1, e1, e⟩ := bd_inv e
  exact ⟨m, ρ, s, er, sr, x, s1, e1, fun m1 H1 v A1 S1 r1 => hg m1 H1 s1 x v Q S1 r1 ⟨w, s', e, fun m3 H3 z A3 => q m3 H3 z (A1.trans A3)⟩⟩
theorem m_op {op : Operator} {r : R2} {g : W → W → Sto → Rz W} {fa fb : FE} (ho : OpR X (binaryOp op) r) (hg : OpF X.K r g) (ha : PE X a (tF X.K fa)) (hb : PE X b (tF X.K fb)) : PE X (.BinOp a op b pos) (tF X.K (eOp g fa fb)) := (pe_op ho ha hb).imp (tF_op hg)
theorem m_un {op : UnaryOp} {r : V → Hp → VK → Prop} {g : W → Sto → Rz W} {fa : FE} (ho : UnR X (unaryOp op) r) (hg : UnF X.K r g) (ha : PE X a (tF X.K fa)) : PE X (.UnaryOp op a pos) (tF X.K (eUn g fa)) := (pe_un ho ha).imp (tF_un hg)
theorem m_ix {r : R2} {g : W → W → Sto → Rz W} {fa fb : FE} (hr : IxR X r) (hg : OpF X.K r g) (ha : PE X a (tF X.K fa)) (hb : PE X b (tF X.K fb)) (hs : PlainIx b) : PE X (.Subscript a b pos) (tF X.K (eOp g fa fb)) := (pe_ix hr ha hb hs).imp (tF_op hg)
theorem m_cmp {op : CmpOp} {r : R2} {g : W → W → Sto → Rz W} {fa fb : FE} (ho : OpR X (compareOp op) r) (hg : OpF X.K r g) (ha : PE X a (tF X.K fa)) (hb : PE X b (tF X.K fb)) (hm : behindInMarks op b = false) : PE X (.Compare a [op] [b] pos) (tF X.K (eOp g fa fb)) :=
  (pe_cmpR ho ha hb hm).imp (tF_op hg)
theorem ma_nil : PA X [] (tA X.K aNil) := pa_nil.imp fun σ H Q ⟨m, ρ, s, er, sr, ws, s', e, q⟩ => by
  cases e
  exact q m H [] (Adv.refl m H) sr .nil
theorem ma_cons {fa : FE} {fr : FA} (ha : PE X e (tF X.K fa)) (hr : PA X es (tA X.K fr)) (hs : starEach (e :: es) X.env = (false, eval e X.env) :: starEach es X.env := by rfl) : PA X (e :: es) (tA X.K (aCons fa fr)) :=
  (pa_cons ha hr hs).imp fun σ H Q ⟨m, ρ, s, er, sr, ws, s', e, q⟩ => by
    obtain ⟨x, s1, e1, e⟩ := bd_inv e
    obtain ⟨y, s2, e2, e⟩ := bd_inv e
    cases e
    exact ⟨m, ρ, s, er, sr, x, s1, e1, fun m1 H1 v A1 S1 r1 => ⟨m1, ρ, s1, er.adv A1, S1, y, _, e2, fun m2 H2 u A2 S2 r2 => q m2 H2 (v :: u) (A1.trans A2) S2 (.cons (r1.adv A2) r2)⟩⟩
def seqOf (x : W) (s : Sto) : Option (List W) := match x with
  | .tup ws => some ws
  | .lro ws => some ws
  | .ref n => match s[n]? with
    | some (.lst ws) => some ws
    | _ => none
  | _ => none
theorem seq_of {K : PySem.W.Frag} {m : List Addr} {H : Hp} {s : Sto} {x : W} {v : V} {ws : List W} (S : SR K m H s) (r : R K m H x v) (h : seqOf x s = some ws) : ∃ p vs, v = .ref p ∧ (SqT K H p vs ∨ SqL K H p vs) ∧ RL K m H ws vs := by
  cases r with
  | non => cases h
  | bl => cases h
  | int => cases h
  | str => cases h
  | fn => cases h
  | xob => cases h
  | tup h1 h2 => cases h; exact ⟨_, _, rfl, .inl h1.sq, h2⟩
  | lro h1 h2 => cases h; exact ⟨_, _, rfl, .inr h1.sq, h2⟩
  | @ref n a h1 =>
    cases e : s[n]? with
    | none => simp only [seqOf, e] at h; cases h
    | some o =>
      cases o with
      | dct _ => simp only [seqOf, e] at h; cases h
      | dtt _ => simp only [seqOf, e] at h; cases h
      | lam _ _ => simp only [seqOf, e] at h; cases h
      | tab _ _ => simp only [seqOf, e] at h; cases h
      | dead => simp only [seqOf, e] at h; cases h
      | frd _ => simp only [seqOf, e] at h; cases h
      | frt _ => simp only [seqOf, e] at h; cases h
      | ins _ _ => simp only [seqOf, e] at h; cases h
      | lst ws' =>
        simp only [seqOf, e] at h
        cases h
        obtain ⟨a', h2, vs, h3, h4⟩ := S.at e
        rw [h1] at h2
        cases h2
        exact ⟨_, _, rfl, .inr (SqL.of h3), h4⟩
def aStar (a : FE) (r : FA) : FA := fun ρ s => bd (a ρ s) fun x s1 => match seqOf x s1 with
  | some ws => bd (r ρ s1) fun xs s2 => some (ws ++ xs, s2)
  | none => none
theorem m_callB {id : String} {x : Str} {p : Pos} {r : List V → Hp → VK → Prop} {g : List W → Sto → Rz W} {fa : FA} (hc : CallR X (.builtin id) r) (hg' : CallF X.K r g) (hg : Gl X x) (hm : X.mg x = none) (hv : bootBuiltins x = some (.builtin id)) (ha : PA X (e :: es) (tA X.K fa)) (hn : x ≠ "__name__" := by decide) (hdb : (x == ("__debug__" : Str)) = false := by decide)
    (he : starEach (e :: es) X.env = (false, eval e X.env) :: starEach es X.env := by rfl) (hpl : (backTo pos (starEach es X.env)).any (·.1) = false := by rfl) : PE X (.Call (.Name x p) (e :: es) [] pos) (tF X.K (eFn g fa)) := (pe_callB hc hg hm hv ha hn hdb he hpl).imp (tF_fn hg')
theorem m_callTy {T : String} {x : Str} {p : Pos} {r : List V → Hp → VK → Prop} {g : List W → Sto → Rz W} {fa : FA} (hc : CallR X (.type T) r) (hg' : CallF X.K r g) (hg : Gl X x) (hm : X.mg x = none) (hv : bootBuiltins x = some (.type T)) (ha : PA X (e :: es) (tA X.K fa)) (hn : x ≠ "__name__" := by decide) (hdb : (x == ("__debug__" : Str)) = false := by decide)
    (he : starEach (e :: es) X.env = (false, eval e X.env) :: starEach es X.env := by rfl) (hpl : (backTo pos (starEach es X.env)).any (·.1) = false := by rfl) : PE X (.Call (.Name x p) (e :: es) [] pos) (tF X.K (eFn g fa)) := (pe_callTy hc hg hm hv ha hn hdb he hpl).imp (tF_fn hg')
end
end Mir

set_option Elab.async false
set_option linter.all false
set_option maxRecDepth 100000
namespace Mir
open PySem PySem.Spec PyProof.Rows L2
section
variable {X : Cx} {e a b c : Expr} {es : List Expr} {pos : Pos}
def bTest (f : FE) : FT := fun ρ s => bd (f ρ s) fun x s1 => match x with
  | .bl k => some (k, s1)
  | _ => none
theorem tT_test {K : PySem.W.Frag} {f : FE} : ∀ σ H Q, tT K (bTest f) σ H Q → (tF K f) σ H fun x H' => ∃ k, x = .bl k ∧ Q k H' := by
  rintro σ H Q ⟨m, ρ, s, er, sr, k, s', e, q⟩
  obtain ⟨x, s1, e1, e⟩ := bd_inv e
  cases x with
  | bl k' =>
    cases e
    exact ⟨m, ρ, s, er, sr, _, _, e1, fun m1 H1 v A1 S1 r1 => by cases r1; exact ⟨k, rfl, q m1 H1 A1 S1⟩⟩
  | _ => cases e
theorem mt_cmp {op : CmpOp} {r : R2} {g : W → W → Sto → Rz W} {fa fb : FE} (ho : OpR X (compareOp op) r) (hg : OpF X.K r g) (ha : PE X a (tF X.K fa)) (hb : PE X b (tF X.K fb)) (hm : behindInMarks op b = false) : PT X (.Compare a [op] [b] pos) (tT X.K (bTest (eOp g fa fb))) :=
  (pt_cmpR ho ha hb hm).imp fun σ H Q h => tF_op hg σ H _ (tT_test σ H Q h)
def truW (x : W) (s : Sto) : Option Bool := match x with
  | .non => some false
  | .bl b => some b
  | .int i => some (i != 0)
  | .str y => if y.length ≤ sizeLine then some ((y.length : Int) != 0) else none
  | .tup ws => some (!ws.isEmpty)
  | .lro ws => some (!ws.isEmpty)
  | .ref n => match s[n]? with
    | some (.lst ws) => some (!ws.isEmpty)
    | some (.dct kvs) => some (!kvs.isEmpty)
    | _ => none
  | .fn _ => none
  | .xob _ => none
theorem RL.emp {K : PySem.W.Frag} {m : List Addr} {H : Hp} {ws : List W} {vs : List V} (h : RL K m H ws vs) : vs.isEmpty = ws.isEmpty := by cases h <;> rfl
theorem RK.emp {K : PySem.W.Frag} {m : List Addr} {H : Hp} {ws : List (Key × W)} {vs : List (Key × V)} (h : RK K m H ws vs) : vs.isEmpty = ws.isEmpty := by cases h <;> rfl
theorem tru_of {K : PySem.W.Frag} {m : List Addr} {H : Hp} {s : Sto} {x : W} {v : V} {k : Bool} (S : SR K m H s) (r : R K m H x v) (h : truW x s = some k) : TruV K v H k := by
  cases r with
  | non => cases h; rfl
  | bl b => cases h; rfl
  | fn => cases h
  | xob => cases h
  | int i => cases h; rfl
  | str y =>
    simp only [truW] at h
    split at h
    · rename_i hl
      cases h
      exact ⟨hl, rfl⟩
    · cases h
  | tup h1 h2 => cases h; exact .inr (.inl ⟨_, h1.sq, by rw [h2.emp]⟩)
  | lro h1 h2 => cases h; exact .inl ⟨_, h1.sq, by rw [h2.emp]⟩
  | @ref n a h1 =>
    cases e : s[n]? with
    | none => simp only [truW, e] at h; cases h
    | some o =>
      obtain ⟨a', h2, h3⟩ := S.at e
      rw [h1] at h2
      cases h2
      cases o with
      | lst ws =>
        simp only [truW, e] at h
        cases h
        obtain ⟨vs, h3, h4⟩ := h3
        exact .inl ⟨_, SqL.of h3, by rw [h4.emp]⟩
      | dtt _ => simp only [truW, e] at h; cases h
      | dct ws =>
        simp only [truW, e] at h
        cases h
        obtain ⟨vs, h3, h4⟩ := h3
        exact .inr (.inr ⟨_, h3, by rw [h4.emp]⟩)
      | _ => simp only [truW, e] at h; cases h
def bTruth (f : FE) : FT := fun ρ s => bd (f ρ s) fun x s1 => match truW x s1 with
  | some k => some (k, s1)
  | none => none
theorem mt_truth {f : FE} (h : PE X e (tF X.K f)) (he : ∀ whole, isTrue e X.env whole = (do let v ← whole; standAt e.pos; holding [v] (truthy v)) := by intro _; rfl) : PT X e (tT X.K (bTruth f)) :=
  (pt_truth h he).imp fun σ H Q ⟨m, ρ, s, er, sr, k, s', e, q⟩ => by
    obtain ⟨x, s1, e1, e⟩ := bd_inv e
    cases et : truW x s1 with
    | none => simp only [et] at e; cases e
    | some k' =>
      simp only [et] at e
      cases e
      exact ⟨m, ρ, s, er, sr, x, _, e1, fun m1 H1 v A1 S1 r1 => ⟨_, tru_of S1 r1 et, q m1 H1 A1 S1⟩⟩
def bAnd (t u : FT) : FT := fun ρ s => bd (t ρ s) fun k s1 => if k = true then u ρ s1 else some (false, s1)
def bOr (t u : FT) : FT := fun ρ s => bd (t ρ s) fun k s1 => if k = true then some (true, s1) else u ρ s1
def bNot (t : FT) : FT := fun ρ s => bd (t ρ s) fun k s1 => some (!k, s1)

theorem mt_not {t : FT} (ha : PT X a (tT X.K t)) : PT X (.UnaryOp .Not a pos) (tT X.K (bNot t)) :=
  (pt_not ha).imp fun σ H Q ⟨m, ρ, s, er, sr, k, s', e, q⟩ => by
    obtain ⟨c, s1, e1, e⟩ := bd_inv e
    cases e
    exact ⟨m, ρ, s, er, sr, c, _, e1, fun m1 H1 A1 S1 => q m1 H1 A1 S1⟩
def eAnd (f g : FE) : FE := fun ρ s => bd (f ρ s) fun x s1 => match truW x s1 with
  | some k => if k = true then g ρ s1 else some (x, s1)
  | none => none
def eOr (f g : FE) : FE := fun ρ s => bd (f ρ s) fun x s1 => match truW x s1 with
  | some k => if k = true then some (x, s1) else g ρ s1
  | none => none
def eNot (f : FE) : FE := fun ρ s => bd (f ρ s) fun x s1 => match truW x s1 with
  | some k => some (.bl (!k), s1)
  | none => none
def eIf (t : FT) (f g : FE) : FE := fun ρ s => bd (t ρ s) fun k s1 => if k = true then f ρ s1 else g ρ s1
def eTup (f : FA) : FE := fun ρ s => bd (f ρ s) fun ws s1 => if ws.length ≤ 100000 then some (.tup ws, s1) else none
def eLst (f : FA) : FE := fun ρ s => bd (f ρ s) fun ws s1 => if ws.length ≤ 100000 then some (.ref s1.length, s1 ++ [.lst ws]) else none
theorem szl {n : Nat} (h : n ≤ 100000) : n ≤ sizeLine := Nat.le_trans h (by decide)
theorem szt {n : Nat} (h : n ≤ 100000) : n < sizeLine := Nat.lt_of_le_of_lt h (by decide)
theorem new_tup {K : PySem.W.Frag} {m : List Addr} {H : Hp} {s : Sto} {ws : List W} {vs : List V} {p : Addr} {Q : VK} (S : SR K m H s) (r : RL K m H ws vs) (hp : H p = none) (q : ∀ m' H' v, Adv m H m' H' → SR K m' H' s → R K m' H' (.tup ws) v → Q v H') : Q (.ref p) (upd H p (.tup vs)) :=
  q m _ _ (Adv.fresh hp) (S.fresh hp) (.tup (.inl upd_same) (r.adv (Adv.fresh hp)))
theorem new_lst {K : PySem.W.Frag} {m : List Addr} {H : Hp} {s : Sto} {ws : List W} {vs : List V} {p : Addr} {Q : VK} (S : SR K m H s) (r : RL K m H ws vs) (hp : H p = none) (q : ∀ m' H' v, Adv m H m' H' → SR K m' H' (s ++ [.lst ws]) → R K m' H' (.ref s.length) v → Q v H') : Q (.ref p) (upd H p (.lst vs)) :=
  q (m ++ [p]) _ _ (Adv.alloc hp) (S.alloc hp ⟨vs, upd_same, r.adv (Adv.alloc hp)⟩) (alloc_at S)
theorem m_tup {f : FA} {x1} (h : PA X es (tA X.K f)) : PE X (.Tuple es x1 pos) (tF X.K (eTup f)) :=
  (pe_tup h).imp fun σ H Q ⟨m, ρ, s, er, sr, w, s', e, q⟩ => by
    obtain ⟨ws, s1, e1, e⟩ := bd_inv e
    refine ⟨m, ρ, s, er, sr, ws, s1, e1, fun m1 H1 vs A1 S1 r1 => ?_⟩
    split at e
    · rename_i hl
      cases e
      exact ⟨szl (by rw [r1.len]; exact hl), fun p hp => new_tup S1 r1 hp fun m2 H2 v A2 => q m2 H2 v (A1.trans A2)⟩
    · cases e
theorem m_lst {f : FA} (h : PA X es (tA X.K f)) : PE X (.List es pos) (tF X.K (eLst f)) :=
  (pe_lst h).imp fun σ H Q ⟨m, ρ, s, er, sr, w, s', e, q⟩ => by
    obtain ⟨ws, s1, e1, e⟩ := bd_inv e
    refine ⟨m, ρ, s, er, sr, ws, s1, e1, fun m1 H1 vs A1 S1 r1 => ?_⟩
    split at e
    · rename_i hl
      cases e
      exact ⟨szl (by rw [r1.len]; exact hl), fun p hp => new_lst S1 r1 hp fun m2 H2 v A2 => q m2 H2 v (A1.trans A2)⟩
    · cases e
def eDnew : FE := fun _ s => some (.ref s.length, s ++ [.dct []])
def pNo : FP := fun _ s => some (none, s)
def pAt (f : FE) : FP := fun ρ s => bd (f ρ s) fun x s1 => match x with
  | .int i => some (some i, s1)
  | _ => none
theorem mp_none : PO X none (tP X.K pNo) := po_none.imp fun σ H Q ⟨m, ρ, s, er, sr, w, s', e, q⟩ => by
  cases e
  exact q m H (Adv.refl m H) sr
theorem mp_some {f : FE} (h : PE X e (tF X.K f)) : PO X (some e) (tP X.K (pAt f)) := (po_some h).imp fun σ H Q ⟨m, ρ, s, er, sr, w, s', e, q⟩ => by
  obtain ⟨x, s1, e1, e⟩ := bd_inv e
  refine ⟨m, ρ, s, er, sr, x, s1, e1, fun m1 H1 v A1 S1 r1 => ?_⟩
  cases r1 with
  | int i => cases e; exact ⟨i, rfl, q m1 H1 A1 S1⟩
  | _ => cases e
def eSl (g : W → Option Int → Option Int → Sto → Rz W) (f : FE) (lo hi : FP) : FE := fun ρ s => bd (f ρ s) fun x s1 => bd (lo ρ s1) fun l s2 => bd (hi ρ s2) fun u s3 => g x l u s3
theorem m_slice {r : V → Option Int → Option Int → Hp → VK → Prop} {g : W → Option Int → Option Int → Sto → Rz W} {f : FE} {l u : FP} {lo hi : Option Expr} {p2 : Pos} (hr : SlR X r) (hg : SlF X.K r g) (he : PE X e (tF X.K f)) (hl : PO X lo (tP X.K l)) (hu : PO X hi (tP X.K u)) : PE X (.Subscript e (.Slice lo hi none p2) pos) (tF X.K (eSl g f l u)) :=
  (pe_slice hr he hl hu).imp fun σ H Q ⟨m, ρ, s, er, sr, w, s', e, q⟩ => by
    obtain ⟨x, s1, e1, e⟩ := bd_inv e
    obtain ⟨y, s2, e2, e⟩ := bd_inv e
    obtain ⟨z, s3, e3, e⟩ := bd_inv e
    exact ⟨m, ρ, s, er, sr, x, s1, e1, fun m1 H1 v A1 S1 r1 => ⟨m1, ρ, s1, er.adv A1, S1, y, s2, e2, fun m2 H2 A2 S2 => ⟨m2, ρ, s2, (er.adv A1).adv A2, S2, z, s3, e3, fun m3 H3 A3 S3 =>
      hg m3 H3 s3 x v y z Q S3 ((r1.adv A2).adv A3) ⟨w, s', e, fun m4 H4 v4 A4 => q m4 H4 v4 (((A1.trans A2).trans A3).trans A4)⟩⟩⟩⟩
end
end Mir

set_option Elab.async false
set_option linter.all false
set_option maxRecDepth 100000
namespace Mir
open PySem PySem.Spec PyProof.Rows L2
inductive Tg where
  | name (i : Nat)
  | tup (ts : List Tg)
mutual
def tgT (K : PySem.W.Frag) : Tg → TG
  | .name i => gName i
  | .tup ts => gTup K ts.length (tgTs K ts)
def tgTs (K : PySem.W.Frag) : List Tg → TGs
  | [] => gNil
  | t :: ts => gCons (tgT K t) (tgTs K ts)
end
mutual
def tgM : Tg → W → EnvM → Option EnvM
  | .name i, w, ρ => some (ρ.set i (some w))
  | .tup ts, .tup ws, ρ => tgMs ts ws ρ
  | .tup _, _, _ => none
def tgMs : List Tg → List W → EnvM → Option EnvM
  | [], [], ρ => some ρ
  | t :: ts, w :: ws, ρ => match tgM t w ρ with
    | some ρ' => tgMs ts ws ρ'
    | none => none
  | _, _, _ => none
end
mutual
def Tg.names : Tg → List Nat
  | .name i => [i]
  | .tup ts => Tg.namesL ts
def Tg.namesL : List Tg → List Nat
  | [] => []
  | t :: ts => t.names ++ Tg.namesL ts
end
theorem wipe_set {σ : L2.St} {i : Nat} {x : Option V} : ∀ {vs : List Nat}, i ∈ vs → wipe (σ.set i x) vs = wipe σ vs := by
  intro vs
  induction vs with
  | nil => intro h; cases h
  | cons v vs ih =>
    intro h
    have comm : ∀ (vs : List Nat) (τ : L2.St), i ∉ vs → wipe (τ.set i x) vs = (wipe τ vs).set i x := by
      intro vs
      induction vs with
      | nil => intros; rfl
      | cons w ws ih2 =>
        intro τ h
        rw [List.mem_cons, not_or] at h
        show (wipe (τ.set i x) ws).set w none = ((wipe τ ws).set w none).set i x
        rw [ih2 τ h.2, List.set_comm _ _ h.1]
    show (wipe (σ.set i x) vs).set v none = (wipe σ vs).set v none
    by_cases hi : i ∈ vs
    · rw [ih hi]
    · rw [comm vs σ hi]
      have e : i = v := (List.mem_cons.mp h).resolve_right hi
      subst e
      rw [List.set_set]
section
variable {K : PySem.W.Frag} {m : List Addr} {H : Hp}
mutual
theorem tg_ok : ∀ (t : Tg) {w : W} {v : V} {ρ ρ' : EnvM} {σ : L2.St} {Q : L2.St → Hp → Prop}, ER K m H ρ σ → R K m H w v → tgM t w ρ = some ρ' →
    (∀ σ', ER K m H ρ' σ' → (∀ vs, (∀ i ∈ t.names, i ∈ vs) → wipe σ' vs = wipe σ vs) → Q σ' H) → tgT K t v σ H Q
  | .name i, w, v, ρ, ρ', σ, Q, er, r, e, q => by
    rw [tgM] at e
    cases e
    rw [tgT]
    exact q _ (er.set i r) fun vs h => wipe_set (h i (by rw [Tg.names]; exact List.mem_cons_self))
  | .tup ts, w, v, ρ, ρ', σ, Q, er, r, e, q => by
    rw [tgT]
    cases r with
    | tup h1 h2 =>
      rw [tgM] at e
      refine ⟨_, _, rfl, h1.sq, ?_, ?_⟩
      · exact (h2.len).trans (tgMs_len ts e).symm
      · exact tgs_ok ts er h2 e fun σ' er' h => q σ' er' fun vs hv => h vs (by rw [Tg.names] at hv; exact hv)
    | _ => simp only [tgM] at e <;> cases e
theorem tgs_ok : ∀ (ts : List Tg) {ws : List W} {vs : List V} {ρ ρ' : EnvM} {σ : L2.St} {Q : L2.St → Hp → Prop}, ER K m H ρ σ → RL K m H ws vs → tgMs ts ws ρ = some ρ' →
    (∀ σ', ER K m H ρ' σ' → (∀ vs, (∀ i ∈ Tg.namesL ts, i ∈ vs) → wipe σ' vs = wipe σ vs) → Q σ' H) → tgTs K ts vs σ H Q
  | [], ws, vs, ρ, ρ', σ, Q, er, r, e, q => by
    cases r with
    | nil =>
      rw [tgMs] at e
      cases e
      rw [tgTs]
      exact ⟨rfl, q _ er fun _ _ => rfl⟩
    | cons _ _ => simp only [tgMs] at e; cases e
  | t :: ts, ws, vs, ρ, ρ', σ, Q, er, r, e, q => by
    cases r with
    | nil => simp only [tgMs] at e; cases e
    | cons r1 r2 =>
      rw [tgMs] at e
      cases h1 : tgM t _ ρ with
      | none => rw [h1] at e; cases e
      | some ρ1 =>
        rw [h1] at e
        rw [tgTs]
        refine ⟨_, _, rfl, tg_ok t er r1 h1 fun σ1 er1 w1 => tgs_ok ts er1 r2 e fun σ2 er2 w2 => q σ2 er2 fun vs hv => ?_⟩
        rw [Tg.namesL] at hv
        rw [w2 vs fun i hi => hv i (List.mem_append_right _ hi), w1 vs fun i hi => hv i (List.mem_append_left _ hi)]
theorem tgMs_len : ∀ (ts : List Tg) {ws : List W} {ρ ρ' : EnvM}, tgMs ts ws ρ = some ρ' → ts.length = ws.length
  | [], [], _, _, _ => rfl
  | [], _ :: _, _, _, e => by simp only [tgMs] at e; cases e
  | _ :: _, [], _, _, e => by simp only [tgMs] at e; cases e
  | t :: ts, w :: ws, ρ, ρ', e => by
    rw [tgMs] at e
    cases h1 : tgM t w ρ with
    | none => rw [h1] at e; cases e
    | some ρ1 =>
      rw [h1] at e
      rw [List.length_cons, List.length_cons, tgMs_len ts e]
end
end
section
variable {X : Cx} {e a b c : Expr} {es : List Expr} {pos : Pos} {st : Stmt} {rest : List Stmt}
def sNil : FS := fun ρ s => some (.nx ρ, s)
def sCons (f g : FS) : FS := fun ρ s => bd (f ρ s) fun o s1 => match o with
  | .nx ρ1 => g ρ1 s1
  | o => some (o, s1)
def sSet (i : Nat) (f : FE) : FS := fun ρ s => bd (f ρ s) fun w s1 => some (.nx (ρ.set i (some w)), s1)
def sAsg (t : Tg) (f : FE) : FS := fun ρ s => bd (f ρ s) fun w s1 => match tgM t w ρ with
  | some ρ1 => some (.nx ρ1, s1)
  | none => none
def sDo (f : FE) : FS := fun ρ s => bd (f ρ s) fun _ s1 => some (.nx ρ, s1)
def sRet (f : FE) : FS := fun ρ s => bd (f ρ s) fun w s1 => some (.rt w, s1)
def sRetN : FS := fun _ s => some (.rt .non, s)
def sIf (t : FT) (f g : FS) : FS := fun ρ s => bd (t ρ s) fun k s1 => if k = true then f ρ s1 else g ρ s1
def sBrk : FS := fun ρ s => some (.bk ρ, s)
def sCnt : FS := fun ρ s => some (.ct ρ, s)
theorem mss_nil : PSs X [] (tS X.K sNil) := pss_nil.imp fun D σ H ⟨m, ρ, s, er, sr, o, s', e, q⟩ => by cases e; exact q m H σ (Adv.refl m H) sr er
theorem mss_one {f : FS} (h : PS X st (tS X.K f)) : PSs X [st] (tS X.K f) := pss_one h
theorem mss_cons {f g : FS} (h1 : PS X st (tS X.K f)) (h2 : PSs X rest (tS X.K g)) : PSs X (st :: rest) (tS X.K (sCons f g)) :=
  (pss_cons h1 h2).imp fun D σ H ⟨m, ρ, s, er, sr, o, s', e, q⟩ => by
    obtain ⟨o1, s1, e1, e⟩ := bd_inv e
    refine ⟨m, ρ, s, er, sr, o1, s1, e1, ?_⟩
    cases o1 with
    | nx ρ1 => exact fun m1 H1 σ1 A1 S1 er1 => ⟨m1, ρ1, s1, er1, S1, o, s', e, q.adv A1⟩
    | rt w => cases e; exact q
    | bk ρ1 => cases e; exact q
    | ct ρ1 => cases e; exact q
theorem ms_set {i : Nat} {x : Str} {pos' : Pos} {f : FE} (hN : X.N.Nodup) (hi : X.N[i]? = some x) (hx : Loc X.env.scope x) (he : PE X e (tF X.K f)) (hs : swapsWith e (some (.Name x pos')) pos.line X.env = pure false := by rfl) (hf : X.fn x = true ∨ X.env.scope.names.lookup x = some .local := by first | exact .inl rfl | exact .inr rfl | assumption) :
    PS X (.Assign [.Name x pos'] e pos) (tS X.K (sSet i f)) :=
  (ps_set hN hi hx he hs hf).imp fun D σ H ⟨m, ρ, s, er, sr, o, s', e, q⟩ => by
    obtain ⟨w, s1, e1, e⟩ := bd_inv e
    cases e
    exact ⟨m, ρ, s, er, sr, w, _, e1, fun m1 H1 v A1 S1 r1 => q m1 H1 _ A1 S1 ((er.adv A1).set i r1)⟩
theorem ms_asg {tg : Expr} {t : Tg} {f : FE} (he : PE X e (tF X.K f)) (hg : PG X tg (tgT X.K t)) (hs : swapsWithSole [tg] e pos.line X.env = pure false := by rfl) (hw : swappedStores [tg] e X.env = pure none := by rfl)
    (h1 : (assignEach [tg] X.env).map (·.2) = [assign tg X.env] := by rfl) : PS X (.Assign [tg] e pos) (tS X.K (sAsg t f)) :=
  (ps_asg he hg hs hw h1).imp fun D σ H ⟨m, ρ, s, er, sr, o, s', e, q⟩ => by
    obtain ⟨w, s1, e1, e⟩ := bd_inv e
    cases et : tgM t w ρ with
    | none => simp only [et] at e; cases e
    | some ρ1 =>
      simp only [et] at e
      cases e
      exact ⟨m, ρ, s, er, sr, w, _, e1, fun m1 H1 v A1 S1 r1 => tg_ok t (er.adv A1) r1 et fun σ' er' _ => q m1 H1 σ' A1 S1 er'⟩
theorem ms_expr {f : FE} (he : PE X e (tF X.K f)) (hs : swapsWith e none pos.line X.env = pure false := by rfl) : PS X (.Expr e pos) (tS X.K (sDo f)) :=
  (ps_expr he hs).imp fun D σ H ⟨m, ρ, s, er, sr, o, s', e, q⟩ => by
    obtain ⟨w, s1, e1, e⟩ := bd_inv e
    cases e
    exact ⟨m, ρ, s, er, sr, w, _, e1, fun m1 H1 v A1 S1 r1 => q m1 H1 _ A1 S1 (er.adv A1)⟩
theorem ms_ret {f : FE} (he : PE X e (tF X.K f)) : PS X (.Return (some e) pos) (tS X.K (sRet f)) :=
  (ps_ret he).imp fun D σ H ⟨m, ρ, s, er, sr, o, s', e, q⟩ => by
    obtain ⟨w, s1, e1, e⟩ := bd_inv e
    cases e
    exact ⟨m, ρ, s, er, sr, w, _, e1, fun m1 H1 v A1 S1 r1 => q m1 H1 _ A1 S1 r1⟩
theorem ms_if {t : FT} {f g : FS} {as bs : List Stmt} (hc : PT X c (tT X.K t)) (ha : PSs X as (tS X.K f)) (hb : PSs X bs (tS X.K g)) : PS X (.If c as bs pos) (tS X.K (sIf t f g)) :=
  (ps_if hc ha hb).imp fun D σ H ⟨m, ρ, s, er, sr, o, s', e, q⟩ => by
    obtain ⟨k, s1, e1, e⟩ := bd_inv e
    refine ⟨m, ρ, s, er, sr, k, s1, e1, fun m1 H1 A1 S1 => ?_⟩
    cases k with
    | true =>
      rw [if_pos rfl] at e ⊢
      exact ⟨m1, ρ, s1, er.adv A1, S1, o, s', e, q.adv A1⟩
    | false =>
      rw [if_neg Bool.false_ne_true] at e ⊢
      exact ⟨m1, ρ, s1, er.adv A1, S1, o, s', e, q.adv A1⟩
def setAt (o i w : W) (s : Sto) : Option Sto := match o, i with
  | .ref n, .int k => match s[n]? with
    | some (.lst ws) => match ixN ws.length k with
      | some j => some (s.set n (.lst (ws.set j w)))
      | none => none
    | _ => none
  | _, _ => none
def sPut (o i f : FE) : FS := fun ρ s => bd (f ρ s) fun w s1 => bd (o ρ s1) fun x s2 => bd (i ρ s2) fun y s3 => match setAt x y w s3 with
  | some s4 => some (.nx ρ, s4)
  | none => none
def sAug (i : Nat) (g : W → W → Sto → Rz W) (f : FE) : FS := fun ρ s => match ρ[i]? with
  | some (some x) => bd (f ρ s) fun y s1 => bd (g x y s1) fun z s2 => some (.nx (ρ.set i (some z)), s2)
  | _ => none
def wh (t : FT) (b : FS) : Nat → FS
  | 0, _, _ => none
  | n + 1, ρ, s => bd (t ρ s) fun k s1 => if k = true then bd (b ρ s1) fun o s2 => match o with
      | .nx ρ' => wh t b n ρ' s2
      | .ct ρ' => wh t b n ρ' s2
      | .bk ρ' => some (.nx ρ', s2)
      | .rt w => some (.rt w, s2)
    else some (.nx ρ, s1)
def sWh (n : EnvM → Sto → Nat) (t : FT) (b : FS) : FS := fun ρ s => wh t b (n ρ s) ρ s
def okc (c : Option (Nat × List W)) (s : Sto) : Prop := match c with
  | none => True
  | some (n, ws) => s[n]? = some (.lst ws)
structure ItOk (K : PySem.W.Frag) (J : It) (m0 : List Addr) (H0 : Hp) (xs : List W) (c : Option (Nat × List W)) : Prop where
  go : ∀ m H s i x, Adv m0 H0 m H → SR K m H s → okc c s → xs[i]? = some x → J.go i H ∧ ∀ v H', J.yld i H v H' → ∃ m', Adv m H m' H' ∧ SR K m' H' s ∧ R K m' H' x v
  stop : ∀ m H s, Adv m0 H0 m H → SR K m H s → okc c s → J.stop xs.length H
abbrev FI := EnvM → Sto → Rz (List W × Option (Nat × List W))
def tI (K : PySem.W.Frag) (f : FI) : TI := fun σ H Q => ∃ m ρ s, ER K m H ρ σ ∧ SR K m H s ∧ ∃ xs c s', f ρ s = some ((xs, c), s') ∧ ∀ m' H' J, Adv m H m' H' → SR K m' H' s' → ItOk K J m' H' xs c → Q J H'
theorem _root_.L2.PI.imp {tg iter : Expr} {t t' : TI} (h : PI X tg iter t) (q : ∀ σ H Q, t' σ H Q → t σ H Q) : PI X tg iter t' := ⟨fun pins s σ H Q I r => h.run pins s σ H Q I (q _ _ _ r)⟩
open Classical in
noncomputable def fo (t : Tg) (b : FS) (c : Option (Nat × List W)) : List W → FS
  | [], ρ, s => if okc c s then some (.nx ρ, s) else none
  | x :: r, ρ, s => if okc c s then match tgM t x ρ with
      | some ρ1 => bd (b ρ1 s) fun o s2 => match o with
        | .nx ρ' => fo t b c r ρ' s2
        | .ct ρ' => fo t b c r ρ' s2
        | .bk ρ' => some (.nx ρ', s2)
        | .rt w => some (.rt w, s2)
      | none => none
    else none
noncomputable def sFor (it : FI) (t : Tg) (b : FS) : FS := fun ρ s => bd (it ρ s) fun x s1 => fo t b x.2 x.1 ρ s1
theorem ms_for {it : FI} {t : Tg} {b : FS} {tg iter : Expr} {body : List Stmt} (hp : PassesOwn (model X.prog X.w) X.A X.env X.xe) (hc : X.calm = true) (hi : PI X tg iter (tI X.K it)) (hg : PG X tg (tgT X.K t)) (hb : PSs X body (tS X.K b))
    (hs : ∀ x, foldedSetIterable iter X.env x = pure x := by intro _; rfl) : PS X (.For tg iter body [] pos) (tS X.K (sFor it t b)) :=
  (ps_for hp hc hi hg hb hs).imp fun D σ H ⟨m, ρ, s, er, sr, o, s', e, q⟩ => by
    obtain ⟨⟨xs, c⟩, s1, e1, e⟩ := bd_inv e
    refine ⟨m, ρ, s, er, sr, xs, c, s1, e1, fun m1 H1 J A1 S1 ok => ?_⟩
    refine ⟨fun i μ σ2 H2 => ∃ m2 ρ2 s2, Adv m1 H1 m2 H2 ∧ ER X.K m2 H2 ρ2 σ2 ∧ SR X.K m2 H2 s2 ∧ i + μ = xs.length ∧ fo t b c (xs.drop i) ρ2 s2 = some (o, s'), ⟨xs.length, m1, ρ, s1, Adv.refl m1 H1, er.adv A1, S1, Nat.zero_add _, e⟩, ?_⟩
    rintro i μ σ2 H2 ⟨m2, ρ2, s2, A2, er2, S2, hi, e2⟩
    cases μ with
    | zero =>
      have hl : i = xs.length := by omega
      subst hl
      rw [List.drop_length, fo] at e2
      by_cases ho : okc c s2
      · rw [if_pos ho] at e2
        cases e2
        exact .inl ⟨ok.stop m2 H2 _ A2 S2 ho, q m2 H2 σ2 (A1.trans A2) S2 er2⟩
      · rw [if_neg ho] at e2
        cases e2
    | succ μ =>
      have hl : i < xs.length := by omega
      rw [List.drop_eq_getElem_cons hl, fo] at e2
      by_cases ho : okc c s2
      · rw [if_pos ho] at e2
        obtain ⟨g1, g2⟩ := ok.go m2 H2 s2 i xs[i] A2 S2 ho (List.getElem?_eq_getElem hl)
        refine .inr ⟨g1, fun σ' H' => ∃ m', m' < μ + 1 ∧ ∃ m2 ρ2 s2, Adv m1 H1 m2 H' ∧ ER X.K m2 H' ρ2 σ' ∧ SR X.K m2 H' s2 ∧ (i + 1) + m' = xs.length ∧ fo t b c (xs.drop (i + 1)) ρ2 s2 = some (o, s'), fun _ _ h => h, fun v H3 y => ?_⟩
        obtain ⟨m3, A3, S3, r3⟩ := g2 v H3 y
        cases et : tgM t xs[i] ρ2 with
        | none => simp only [et] at e2; cases e2
        | some ρ4 =>
          simp only [et] at e2
          obtain ⟨o5, s5, e5, e2⟩ := bd_inv e2
          refine tg_ok t (er2.adv A3) r3 et fun σ4 er4 _ => ⟨m3, ρ4, s2, er4, S3, o5, s5, e5, ?_⟩
          cases o5 with
          | nx ρ5 => exact fun m6 H6 σ6 A6 S6 er6 => ⟨μ, Nat.lt_succ_self μ, m6, ρ5, s5, (A2.trans A3).trans A6, er6, S6, by omega, e2⟩
          | ct ρ5 => exact fun m6 H6 σ6 A6 S6 er6 => ⟨μ, Nat.lt_succ_self μ, m6, ρ5, s5, (A2.trans A3).trans A6, er6, S6, by omega, e2⟩
          | bk ρ5 => cases e2; exact fun m6 H6 σ6 A6 S6 er6 => q m6 H6 σ6 (A1.trans ((A2.trans A3).trans A6)) S6 er6
          | rt w => cases e2; exact fun m6 H6 v A6 S6 r6 => q m6 H6 v (A1.trans ((A2.trans A3).trans A6)) S6 r6
      · rw [if_neg ho] at e2
        cases e2
theorem wipe_wipe (σ : L2.St) : ∀ vs : List Nat, wipe (wipe σ vs) vs = wipe σ vs
  | [] => rfl
  | v :: vs => by
    show wipe ((wipe σ vs).set v none) (v :: vs) = _
    rw [wipe_set List.mem_cons_self]
    show (wipe (wipe σ vs) vs).set v none = _
    rw [wipe_wipe σ vs]
    rfl
def wipeM (ρ : EnvM) : List Nat → EnvM
  | [] => ρ
  | v :: vs => (wipeM ρ vs).set v none
theorem ER.wipe {K : PySem.W.Frag} {m : List Addr} {H : Hp} {ρ : EnvM} {σ : L2.St} (h : ER K m H ρ σ) : ∀ vs, ER K m H (wipeM ρ vs) (L2.wipe σ vs)
  | [] => h
  | v :: vs => ER.forget v (ER.wipe h vs)
open Classical in
noncomputable def lcf (t : Tg) (u : FT) (f : FE) (c : Option (Nat × List W)) (ρ : EnvM) : List W → Sto → Rz (List W)
  | [], s => if okc c s then some ([], s) else none
  | x :: r, s => if okc c s then match tgM t x ρ with
      | some ρ1 => bd (u ρ1 s) fun k s1 => if k = true then bd (f ρ1 s1) fun w s2 => bd (lcf t u f c ρ r s2) fun ws s3 => some (w :: ws, s3) else lcf t u f c ρ r s1
      | none => none
    else none
noncomputable def eLc (vs : List Nat) (it : FI) (t : Tg) (u : FT) (f : FE) : FE := fun ρ s => bd (it ρ s) fun x s1 => if x.1.length ≤ 100000 then bd (lcf t u f x.2 (wipeM ρ vs) x.1 s1) fun ws s2 => some (.ref s2.length, s2 ++ [.lst ws]) else none
theorem tLc_of {K : PySem.W.Frag} {vs : List Nat} {it : FI} {t : Tg} {u : FT} {f : FE} (hv : ∀ i ∈ t.names, i ∈ vs) : ∀ σ H Q, tF K (eLc vs it t u f) σ H Q → tLc (tI K it) (tgT K t) (tT K u) (tF K f) vs σ H Q := by
  rintro σ H Q ⟨m, ρ, s, er, sr, w, s', e, q⟩
  obtain ⟨⟨xs, c⟩, s1, e1, e⟩ := bd_inv e
  by_cases hz : xs.length ≤ 100000
  · rw [if_pos hz] at e
    obtain ⟨ws, s2, e2, e⟩ := bd_inv e
    cases e
    refine ⟨m, ρ, s, er, sr, xs, c, s1, e1, fun m1 H1 J A1 S1 ok D hD => ?_⟩
    have hDm : D ∉ m1 := fun z => by
      obtain ⟨o, h, _⟩ := S1.there z
      rw [hD] at h; cases h
    have A2 : Adv m1 H1 m1 (upd H1 D (.lst [])) := Adv.fresh hD
    have S2 : SR K m1 (upd H1 D (.lst [])) s1 := S1.fresh hD
    -- the walk: D holds what has been made
    refine ⟨fun i μ H2 => ∃ m2 s2' acc accW rw, Adv m1 H1 m2 H2 ∧ D ∉ m2 ∧ SR K m2 H2 s2' ∧ H2 D = some (.lst acc) ∧ RL K m2 H2 accW acc ∧ i + μ = xs.length ∧ acc.length ≤ i ∧ lcf t u f c (wipeM ρ vs) (xs.drop i) s2' = some (rw, s2) ∧ accW ++ rw = ws,
      ⟨xs.length, m1, s1, [], [], ws, A2, hDm, S2, upd_same, .nil, Nat.zero_add _, Nat.le_refl _, e2, rfl⟩, ?_⟩
    rintro i μ H2 ⟨m2, s3, acc, accW, rw_, A3, hD3, S3, h3, r3, hi, hl, e3, ea⟩
    cases μ with
    | zero =>
      have hl2 : i = xs.length := by omega
      subst hl2
      rw [List.drop_length, lcf] at e3
      by_cases ho : okc c s3
      · rw [if_pos ho] at e3
        cases e3
        refine .inl ⟨ok.stop m2 H2 _ A3 S3 ho, ?_⟩
        rw [List.append_nil] at ea
        subst ea
        have A4 : Adv m1 H1 (m2 ++ [D]) H2 := by
          refine ⟨?_, A3.same, fun a h => ?_, A3.tup, A3.frz⟩
          · obtain ⟨t, rfl⟩ := A3.pre
            exact ⟨t ++ [D], by rw [List.append_assoc]⟩
          · rcases List.mem_append.mp h with h | h
            · exact A3.new a h
            · rw [List.mem_singleton.mp h]; exact .inr hD
        refine q (m2 ++ [D]) H2 (.ref D) (A1.trans A4) (S3.join hD3 ⟨acc, h3, r3⟩) (.ref ?_)
        rw [← S3.len, List.getElem?_append_right (Nat.le_refl _), Nat.sub_self]
        rfl
      · rw [if_neg ho] at e3
        cases e3
    | succ μ =>
      have hl2 : i < xs.length := by omega
      rw [List.drop_eq_getElem_cons hl2, lcf] at e3
      by_cases ho : okc c s3
      · rw [if_pos ho] at e3
        obtain ⟨g1, g2⟩ := ok.go m2 H2 s3 i xs[i] A3 S3 ho (List.getElem?_eq_getElem hl2)
        refine .inr ⟨g1, _, fun _ h => h, fun v H3 y => ?_⟩
        obtain ⟨m3, A5, S5, r5⟩ := g2 v H3 y
        have keepD : ∀ {m' H'}, Adv m2 H2 m' H' → D ∉ m' ∧ H' D = some (.lst acc) := fun {m' H'} A => by
          refine ⟨fun z => ?_, A.same D _ h3 hD3⟩
          rcases A.new D z with z | z
          · exact hD3 z
          · rw [h3] at z; cases z
        cases et : tgM t xs[i] (wipeM ρ vs) with
        | none => simp only [et] at e3; cases e3
        | some ρ4 =>
          simp only [et] at e3
          obtain ⟨k, s5, e5, e3⟩ := bd_inv e3
          have erw := ((er.adv A1).adv (A3.trans A5)).wipe vs
          refine tg_ok t erw r5 et fun σ4 er4 w4 => ⟨by rw [w4 vs hv, wipe_wipe], m3, ρ4, s3, er4, S5, k, s5, e5, fun m6 H6 A6 S6 => ?_⟩
          cases k with
          | false =>
            rw [if_neg Bool.false_ne_true] at e3 ⊢
            obtain ⟨n6, h6⟩ := keepD (A5.trans A6)
            exact ⟨μ, Nat.lt_succ_self μ, m6, s5, acc, accW, rw_, A3.trans (A5.trans A6), n6, S6, h6, r3.adv (A5.trans A6), by omega, by omega, e3, ea⟩
          | true =>
            rw [if_pos rfl] at e3 ⊢
            obtain ⟨w7, s7, e7, e3⟩ := bd_inv e3
            obtain ⟨ws8, s8, e8, e3⟩ := bd_inv e3
            cases e3
            refine ⟨m6, ρ4, s5, er4.adv A6, S6, w7, s7, e7, fun m7 H7 v7 A7 S7 r7 => ?_⟩
            have AA := A5.trans (A6.trans A7)
            obtain ⟨n7, h7⟩ := keepD AA
            have r3' := r3.adv AA
            refine ⟨acc, h7, szt (by omega), μ, Nat.lt_succ_self μ, m7, s7, acc ++ [v7], accW ++ [w7], ws8, ?_, n7, S7.off n7 h7, upd_same, (r3'.ext (Ext.off h7)).app (RL.one (r7.ext (Ext.off h7))), by omega, by rw [List.length_append, List.length_singleton]; omega, e8, by rw [List.append_assoc]; exact ea⟩
            have A8 := A3.trans AA
            refine ⟨A8.pre, fun a o h n => ?_, A8.new, fun a xs h => ?_, fun a o u h => ?_⟩
            · rw [upd_ne (ne_of_none h hD)]
              exact A8.same a o h n
            · rw [upd_ne (ne_of_none h hD)]
              exact A8.tup a xs h
            · rw [upd_ne (ne_of_none h hD)]
              exact A8.frz a o u h
      · rw [if_neg ho] at e3
        cases e3
  · rw [if_neg hz] at e
    cases e
theorem m_lc {elt tg iter : Expr} {ifs : List Expr} {scope : Scope} {own : List (Str × Nat)} {it : FI} {t : Tg} {u : FT} {f : FE} (hv : ∀ i ∈ t.names, i ∈ own.map (·.2)) (hc : X.calm = true) (hN : X.N.Nodup) (hi : PI X tg iter (tI X.K it)) (ok : BlkOk X.N X.env.scope scope own)
    (hg : ∀ (s : Shared) (H : Hp) (C : Addr) (cl : List (Str × Addr)) (fp : List Addr), PG (X.blk s H scope (compEnvC scope cl C X.env) fp) tg (tgT X.K t)) (ht : ∀ (s : Shared) (H : Hp) (C : Addr) (cl : List (Str × Addr)) (fp : List Addr), PTs (X.blk s H scope (compEnvC scope cl C X.env) fp) ifs (tT X.K u))
    (he : ∀ (s : Shared) (H : Hp) (C : Addr) (cl : List (Str × Addr)) (fp : List Addr), PE (X.blk s H scope (compEnvC scope cl C X.env) fp) elt (tF X.K f)) (hs : ∀ x, foldedSetIterable iter X.env x = pure x := by intro _; rfl) :
    PE X (.ListComp elt [⟨tg, iter, ifs, 0⟩] scope pos) (tF X.K (eLc (own.map (·.2)) it t u f)) := (pe_lc hc hN hi ok hg ht he hs).imp (tLc_of hv)
theorem ms_setLc {i : Nat} {y : Str} {py : Pos} {elt tg iter : Expr} {ifs : List Expr} {scope : Scope} {own : List (Str × Nat)} {spos : Pos} {it : FI} {t : Tg} {u : FT} {f : FE} (hv : ∀ i ∈ t.names, i ∈ own.map (·.2)) (hc : X.calm = true) (hN : X.N.Nodup) (hy : X.N[i]? = some y) (hyl : X.env.scope.names.lookup y = some .local)
    (hsw : swapsWith (.ListComp elt [⟨tg, iter, ifs, 0⟩] scope pos) (some (.Name y py)) spos.line X.env = pure true) (hi : PI X tg iter (tI X.K it)) (ok : BlkOk X.N X.env.scope scope own)
    (hg : ∀ (s : Shared) (H : Hp) (C : Addr) (cl : List (Str × Addr)) (fp : List Addr), PG (X.blk s H scope (compEnvC scope cl C X.env) fp) tg (tgT X.K t)) (ht : ∀ (s : Shared) (H : Hp) (C : Addr) (cl : List (Str × Addr)) (fp : List Addr), PTs (X.blk s H scope (compEnvC scope cl C X.env) fp) ifs (tT X.K u))
    (he : ∀ (s : Shared) (H : Hp) (C : Addr) (cl : List (Str × Addr)) (fp : List Addr), PE (X.blk s H scope (compEnvC scope cl C X.env) fp) elt (tF X.K f)) (hs : ∀ x, foldedSetIterable iter X.env x = pure x := by intro _; rfl) :
    PS X (.Assign [.Name y py] (.ListComp elt [⟨tg, iter, ifs, 0⟩] scope pos) spos) (tS X.K (sSet i (eLc (own.map (·.2)) it t u f))) :=
  (ps_setLc hc hN hy hyl hsw hi ok hg ht he hs).imp fun D σ H ⟨m, ρ, s, er, sr, o, s', e, q⟩ => by
    obtain ⟨w, s1, e1, e⟩ := bd_inv e
    cases e
    exact tLc_of hv σ H _ ⟨m, ρ, s, er, sr, w, _, e1, fun m1 H1 v A1 S1 r1 => q m1 H1 _ A1 S1 ((er.adv A1).set i r1)⟩
def bYes : FT := fun _ s => some (true, s)
theorem mts_nil : PTs X [] (tT X.K bYes) := by
  have h := pts_nil (X := X)
  cases h with
  | mk run => exact ⟨fun pins s σ H Q I ⟨m, ρ, s1, er, sr, k, s', e, q⟩ => run pins s σ H Q I (by cases e; exact q m H (Adv.refl m H) sr)⟩
theorem mts_one {c : Expr} {t : FT} (h : PT X c (tT X.K t)) : PTs X [c] (tT X.K t) := pts_one h

def spF (K : PySem.W.Frag) (n : Nat) (F : List W → Sto → Rz W) : Sp := fun vs H Q _ => vs.length = n ∧ ∃ m s ws, RL K m H ws vs ∧ SR K m H s ∧ wE K m H (F ws s) Q
def mkF (n N : Nat) (body : FS) : List W → Sto → Rz W := fun ws s => if ws.length = n then bd (body (ws.map some ++ List.replicate (N - ws.length) none) s) fun o s1 => match o with
  | .rt w => some (w, s1)
  | .nx _ => some (.non, s1)
  | _ => none
  else none
structure Own (P : Program) (w : World) (K : PySem.W.Frag) (mg : Str → Option Value) (base : Heap) (k : Nat) (x : Str) (ps : List Str) (F : List W → Sto → Rz W) : Prop where
  ex : ∃ (f : Addr) (fd : FuncData), FnOk P w K mg base CX0 k f fd ps (spF K ps.length F) ∧ Binds K fd ps [] ∧ PySem.W.keepIn K (.ref f) = true ∧ mg x = some (.ref f)
  ln : ∀ ws s r, F ws s = some r → ws.length = ps.length
theorem Own.mono {P : Program} {w : World} {K : PySem.W.Frag} {mg : Str → Option Value} {base : Heap} {j k : Nat} {x : Str} {ps : List Str} {F : List W → Sto → Rz W} (h : Own P w K mg base j x ps F) (hk : j ≤ k) : Own P w K mg base k x ps F := by
  obtain ⟨f, fd, h1, h2, h3, h4⟩ := h.ex
  exact ⟨⟨f, fd, h1.mono hk, h2, h3, h4⟩, h.ln⟩
theorem m_call {k : Nat} {x : Str} {ps : List Str} {F : List W → Sto → Rz W} {fa : FA} {p : Pos} (O : Own X.prog X.w X.K X.mg X.base k x ps F) (hr : Room k X.A) (hg : Gl X x) (ha : PA X (e :: es) (tA X.K fa)) (hdb : (x == ("__debug__" : Str)) = false := by decide) (he : starEach (e :: es) X.env = (false, eval e X.env) :: starEach es X.env := by rfl)
    (hpl : (backTo pos (starEach es X.env)).any (·.1) = false := by rfl) : PE X (.Call (.Name x p) (e :: es) [] pos) (tF X.K (eFn F fa)) := by
  obtain ⟨f, fd, h1, h2, h3, h4⟩ := O.ex
  refine (pe_call h1 hr hg h4 h3 h2 .nil pass0 ha hdb he hpl).imp fun σ H Q ⟨m, ρ, s, er, sr, w, s', e, q⟩ => ?_
  obtain ⟨ws, s1, e1, e⟩ := bd_inv e
  refine ⟨m, ρ, s, er, sr, ws, s1, e1, fun m1 H1 vs A1 S1 r1 => ?_⟩
  show spF X.K ps.length F (vs ++ []) H1 Q E0
  rw [List.append_nil]
  exact ⟨by rw [r1.len]; exact O.ln _ _ _ e, m1, s1, ws, r1, S1, w, s', e, fun m2 H2 v A2 => q m2 H2 v (A1.trans A2)⟩
end
theorem fnm_of {P : Program} {w : World} {K : PySem.W.Frag} {mg : Str → Option Value} {base : Heap} {x : Str} {st : Stmt} {f : Addr} {fd : FuncData} {N ps : List Str} {k : Nat} {body : FS} (F : Fun K x x st f fd) (S : FnScope N ps (defScope st))
    (h : ∀ (cdv : Value) (A : Around) (outer : List Env) (s : Shared) (H : Hp) (E : XK), Room k (A.deeper (envOfC x (defScope st) s.heap.objs.size f cdv)) → PSs (cxOf CX0 P w K mg base N x (defScope st) f cdv A outer s H E).nox (defBody st) (tS K body)) :
    FnOk P w K mg base CX0 (k + 1) f fd ps (spF K ps.length (mkF ps.length N.length body)) := by
  refine F.ok S (fun vs H Q E h => h.1) (fun cdv A outer s H vs Q E hr hq => ⟨_, h cdv A outer s H E hr, ?_⟩)
  obtain ⟨hl, m, st, ws, r, sr, w, s', e, q⟩ := hq
  unfold mkF at e
  rw [if_pos (by rw [← r.len]; exact hl)] at e
  obtain ⟨o, s1, e1, e⟩ := bd_inv e
  refine ⟨m, _, st, ?_, sr, o, s1, e1, ?_⟩
  · unfold L2.start
    rw [r.len]
    exact r.env.app (ER.nones _)
  · cases o with
    | nx ρ1 => cases e; exact fun m' H' σ' A S _ => q m' H' _ A S .non
    | rt w => cases e; exact q
    | bk ρ1 => cases e
    | ct ρ1 => cases e
theorem own_of {P : Program} {w : World} {K : PySem.W.Frag} {mg : Str → Option Value} {base : Heap} {x : Str} {st : Stmt} {f : Addr} {fd : FuncData} {N ps : List Str} {k : Nat} {body : FS} (F : Fun K x x st f fd) (S : FnScope N ps (defScope st)) (hb : Binds K fd ps []) (hm : mg x = some (.ref f))
    (h : ∀ (cdv : Value) (A : Around) (outer : List Env) (s : Shared) (H : Hp) (E : XK), Room k (A.deeper (envOfC x (defScope st) s.heap.objs.size f cdv)) → PSs (cxOf CX0 P w K mg base N x (defScope st) f cdv A outer s H E).nox (defBody st) (tS K body)) :
    Own P w K mg base (k + 1) x ps (mkF ps.length N.length body) := by
  refine ⟨⟨f, fd, fnm_of F S h, hb, F.kp, hm⟩, fun ws s r e => ?_⟩
  unfold mkF at e
  split at e
  · assumption
  · cases e
end Mir

set_option Elab.async false
set_option linter.all false
set_option maxRecDepth 100000
namespace Mir
open PySem PySem.Spec PyProof.Rows L2
section
variable {K : PySem.W.Frag}
theorem wE.val {m : List Addr} {H : Hp} {w : W} {s : Sto} {Q : VK} (h : wE K m H (some (w, s)) Q) (S : SR K m H s) : ∀ v, R K m H w v → Q v H := by
  obtain ⟨w', s', e, q⟩ := h
  cases e
  exact fun v r => q m H v (Adv.refl m H) S r
def gII (f : Int → Int → W) : W → W → Sto → Rz W := fun x y s => match x, y with
  | .int i, .int j => some (f i j, s)
  | _, _ => none
def gIIc (c : Int → Int → Bool) (f : Int → Int → W) : W → W → Sto → Rz W := fun x y s => match x, y with
  | .int i, .int j => if c i j = true then some (f i j, s) else none
  | _, _ => none
theorem f_I0 {g : Int → Int → V} {f : Int → Int → W} (hf : ∀ m H i j, R K m H (f i j) (g i j)) : OpF K (rI0 g) (gII f) := by
  intro m H s x y v u Q S rx ry h
  cases rx with
  | int i =>
    cases ry with
    | int j => exact ⟨i, j, rfl, rfl, h.val S _ (hf m H i j)⟩
    | _ => obtain ⟨_, _, e, _⟩ := h; cases e
  | _ => obtain ⟨_, _, e, _⟩ := h; cases e
theorem f_I {C : Int → Int → Prop} {c : Int → Int → Bool} {g : Int → Int → V} {f : Int → Int → W} (hc : ∀ i j, c i j = true → C i j) (hf : ∀ m H i j, R K m H (f i j) (g i j)) : OpF K (rI C g) (gIIc c f) := by
  intro m H s x y v u Q S rx ry h
  cases rx with
  | int i =>
    cases ry with
    | int j =>
      by_cases q : c i j = true
      · simp only [gIIc, q, if_pos] at h
        exact ⟨i, j, rfl, rfl, hc i j q, h.val S _ (hf m H i j)⟩
      · simp only [gIIc, q, if_neg, not_false_eq_true] at h
        obtain ⟨_, _, e, _⟩ := h; cases e
    | _ => obtain ⟨_, _, e, _⟩ := h; cases e
  | _ => obtain ⟨_, _, e, _⟩ := h; cases e
abbrev gSub := gII fun i j => .int (i - j)
abbrev gLt := gII fun i j => .bl (decide (i < j))
abbrev gLe := gII fun i j => .bl (decide (i ≤ j))
abbrev gGt := gII fun i j => .bl (decide (j < i))
abbrev gGe := gII fun i j => .bl (decide (j ≤ i))
abbrev gMulI := gIIc (fun i j => decide ((-(2 ^ 64) < i ∧ i < 2 ^ 64) ∨ (-(2 ^ 64) < j ∧ j < 2 ^ 64))) fun i j => .int (i * j)
abbrev gDiv := gIIc (fun i j => decide (0 < j ∧ j < 1073741824)) fun i j => .int (i / j)
abbrev gDivW := gIIc (fun _ j => decide (0 < j ∧ j.natAbs.log2 < 9000)) fun i j => .int (i / j)
abbrev gDivN := gIIc (fun _ j => decide (j ≠ 0 ∧ j.natAbs < 1073741824)) fun i j => .int (i.fdiv j)
abbrev gMod := gIIc (fun _ j => decide (0 < j)) fun i j => .int (i % j)
abbrev gModN := gIIc (fun _ j => decide (j ≠ 0)) fun i j => .int (i.fmod j)
abbrev gPow := gIIc (fun i j => decide (0 ≤ j ∧ j ≤ 1000000 ∧ i.natAbs < 2 ^ 64)) fun i j => .int (i ^ j.toNat)
theorem f_lt : OpF K (rI0 fun i j => .bl (decide (i < j))) gLt := f_I0 fun _ _ _ _ => .bl _
theorem f_gt : OpF K (rI0 fun i j => .bl (decide (j < i))) gGt := f_I0 fun _ _ _ _ => .bl _
theorem f_ge : OpF K (rI0 fun i j => .bl (decide (j ≤ i))) gGe := f_I0 fun _ _ _ _ => .bl _
theorem f_div : OpF K (rI CDiv fun i j => .int (i / j)) gDiv := f_I (fun i j h => of_decide_eq_true (p := 0 < j ∧ j < 1073741824) h) fun _ _ _ _ => .int _
theorem f_divW : OpF K (rI CDivW fun i j => .int (i / j)) gDivW := f_I (fun i j h => of_decide_eq_true (p := 0 < j ∧ j.natAbs.log2 < 9000) h) fun _ _ _ _ => .int _
theorem f_mod : OpF K (rI (fun _ j => 0 < j) fun i j => .int (i % j)) gMod := f_I (fun i j h => of_decide_eq_true h) fun _ _ _ _ => .int _
theorem f_pow : OpF K (rI CPow fun i j => .int (i ^ j.toNat)) gPow := f_I (fun i j h => of_decide_eq_true (p := 0 ≤ j ∧ j ≤ 1000000 ∧ i.natAbs < 2 ^ 64) h) fun _ _ _ _ => .int _
def gNeg : W → Sto → Rz W := fun x s => match x with
  | .int i => some (.int (-i), s)
  | _ => none
theorem f_neg : UnF K (rU fun i => .int (-i)) gNeg := by
  intro m H s x v Q S rx h
  cases rx with
  | int i => exact ⟨i, rfl, h.val S _ (.int _)⟩
  | _ => obtain ⟨_, _, e, _⟩ := h; cases e
def gAdd : W → W → Sto → Rz W := fun x y s => match x, y with
  | .int i, .int j => some (.int (i + j), s)
  | .str a, .str b => if a.length + b.length ≤ 100000 then some (.str (a ++ b), s) else none
  | .tup a, .tup b => if a.length + b.length ≤ 100000 then some (.tup (a ++ b), s) else none
  | .ref n, .ref k => match s[n]?, s[k]? with
    | some (.lst a), some (.lst b) => if a.length + b.length ≤ 100000 then some (.ref s.length, s ++ [.lst (a ++ b)]) else none
    | _, _ => none
  | _, _ => none
def rAddA (K : PySem.W.Frag) : R2 := fun x y H Q => (rI0 fun i j => .int (i + j)) x y H Q ∨ (∃ i j, x = .str i ∧ y = .str j ∧ i.length + j.length ≤ sizeLine ∧ Q (.str (i ++ j)) H) ∨ rCatA K x y H Q ∨ rCat x y H Q
theorem op_addA {X : Cx} : OpR X (binaryOp .Add) (rAddA X.K) := op_add.or (op_add_str.or (op_catA.or op_cat))
theorem f_add : OpF K (rAddA K) gAdd := by
  intro m H s x y v u Q S rx ry h
  have nope : ∀ {P : Prop}, wE K m H (none : Rz W) Q → P := fun h => by obtain ⟨_, _, e, _⟩ := h; cases e
  cases rx with
  | int i =>
    cases ry with
    | int j => exact .inl ⟨i, j, rfl, rfl, h.val S _ (.int _)⟩
    | _ => exact nope h
  | str a =>
    cases ry with
    | str b =>
      by_cases q : a.length + b.length ≤ 100000
      · simp only [gAdd, q, if_pos] at h
        exact .inr (.inl ⟨a, b, rfl, rfl, szl q, h.val S _ (.str _)⟩)
      · simp only [gAdd, q, if_neg, not_false_eq_true] at h
        exact nope h
    | _ => exact nope h
  | @tup p vs ws h1 h2 =>
    cases ry with
    | @tup p' vs' ws' h3 h4 =>
      by_cases q : ws.length + ws'.length ≤ 100000
      · simp only [gAdd, q, if_pos] at h
        have r := h2.app h4
        refine .inr (.inr (.inl ⟨p, p', vs, vs', rfl, rfl, h1.sq, h3.sq, szl (by rw [h2.len, h4.len]; exact q), fun e => ?_, fun _ e => ?_, fun _ _ z hz => ?_⟩))
        · subst e
          exact h.val S _ (.tup h3 r)
        · subst e
          rw [List.append_nil] at r
          exact h.val S _ (.tup h1 r)
        · obtain ⟨w, s', e, q⟩ := h
          cases e
          exact new_tup S r hz q
      · simp only [gAdd, q, if_neg, not_false_eq_true] at h
        exact nope h
    | _ => exact nope h
  | @ref n a h1 =>
    cases ry with
    | @ref k b h2 =>
      cases en : s[n]? with
      | none => simp only [gAdd, en] at h; exact nope h
      | some on =>
        cases on with
        | dct _ => simp only [gAdd, en] at h; exact nope h
        | dtt _ => simp only [gAdd, en] at h; exact nope h
        | lam _ _ => simp only [gAdd, en] at h; exact nope h
        | tab _ _ => simp only [gAdd, en] at h; exact nope h
        | dead => simp only [gAdd, en] at h; exact nope h
        | frd _ => simp only [gAdd, en] at h; exact nope h
        | frt _ => simp only [gAdd, en] at h; exact nope h
        | ins _ _ => simp only [gAdd, en] at h; exact nope h
        | lst wa =>
          cases ek : s[k]? with
          | none => simp only [gAdd, en, ek] at h; exact nope h
          | some ok =>
            cases ok with
            | dct _ => simp only [gAdd, en, ek] at h; exact nope h
            | dtt _ => simp only [gAdd, en, ek] at h; exact nope h
            | lam _ _ => simp only [gAdd, en, ek] at h; exact nope h
            | tab _ _ => simp only [gAdd, en, ek] at h; exact nope h
            | dead => simp only [gAdd, en, ek] at h; exact nope h
            | frd _ => simp only [gAdd, en, ek] at h; exact nope h
            | frt _ => simp only [gAdd, en, ek] at h; exact nope h
            | ins _ _ => simp only [gAdd, en, ek] at h; exact nope h
            | lst wb =>
              by_cases q : wa.length + wb.length ≤ 100000
              · simp only [gAdd, en, ek, q, if_pos] at h
                obtain ⟨a', ha, va, ha1, ha2⟩ := S.at en
                obtain ⟨b', hb, vb, hb1, hb2⟩ := S.at ek
                rw [h1] at ha; cases ha
                rw [h2] at hb; cases hb
                refine .inr (.inr (.inr ⟨a, b, va, vb, rfl, rfl, ha1, hb1, szl (by rw [ha2.len, hb2.len]; exact q), fun p hp => ?_⟩))
                obtain ⟨w, s', e, q⟩ := h
                cases e
                exact new_lst S (ha2.app hb2) hp q
              · simp only [gAdd, en, ek, q, if_neg, not_false_eq_true] at h
                exact nope h
    | _ => exact nope h
  | _ => cases ry <;> exact nope h
def gRep : W → W → Sto → Rz W := fun x y s => match x, y with
  | .ref n, .int k => match s[n]? with
    | some (.lst a) => if a.length * k.toNat ≤ 100000 ∧ -(2 ^ 63) ≤ k ∧ k < 2 ^ 63 then some (.ref s.length, s ++ [.lst (List.replicate k.toNat a).flatten]) else none
    | _ => none
  | _, _ => none
theorem RL.rep {m : List Addr} {H : Hp} {ws : List W} {vs : List V} (h : RL K m H ws vs) : ∀ k : Nat, RL K m H (List.replicate k ws).flatten (List.replicate k vs).flatten
  | 0 => .nil
  | k + 1 => by
    rw [List.replicate_succ, List.replicate_succ, List.flatten_cons, List.flatten_cons]
    exact h.app (RL.rep h k)
def gIx : W → W → Sto → Rz W := fun x y s => match x, y with
  | .str z, .int i => if z.length ≤ 100000 then match atI z.cps.toList i with
      | some c => some (.str ⟨#[c]⟩, s)
      | none => none
    else none
  | x, .int i => match seqOf x s with
    | some ws => match atI ws i with
      | some w => some (w, s)
      | none => none
    | none => none
  | _, _ => none
theorem f_ix : OpF K (rIx K) gIx := by
  intro m H s x y v u Q S rx ry h
  have nope : ∀ {P : Prop}, wE K m H (none : Rz W) Q → P := fun h => by obtain ⟨_, _, e, _⟩ := h; cases e
  have seq : ∀ {i : Int}, u = .int i → (∀ z, x ≠ .str z) → wE K m H (match seqOf x s with
    | some ws => match atI ws i with
      | some w => some (w, s)
      | none => none
    | none => none) Q → rIx K v u H Q := fun {i} e _ h => by
    subst e
    cases es : seqOf x s with
    | none => simp only [es] at h; exact nope h
    | some ws =>
      simp only [es] at h
      cases ea : atI ws i with
      | none => simp only [ea] at h; exact nope h
      | some w =>
        simp only [ea] at h
        obtain ⟨p, vs, rfl, hs, r⟩ := seq_of S rx es
        obtain ⟨v', hv, rv⟩ := r.at_of ea
        rcases hs with hs | hs
        · exact .inr (.inl ⟨p, vs, i, v', rfl, rfl, hs, hv, h.val S _ rv⟩)
        · exact .inl ⟨p, vs, i, v', rfl, rfl, hs, hv, h.val S _ rv⟩
  cases ry with
  | int i =>
    cases x with
    | str z =>
      cases rx
      by_cases q : z.length ≤ 100000
      · simp only [gIx, q, if_true] at h
        cases ea : atI z.cps.toList i with
        | none => simp only [ea] at h; exact nope h
        | some c =>
          simp only [ea] at h
          exact .inr (.inr ⟨z, i, c, rfl, rfl, szl q, ea, h.val S _ (.str _)⟩)
      · simp only [gIx, q, if_false] at h; exact nope h
    | _ => exact seq rfl (fun z e => by cases e) h
  | _ => cases x <;> exact nope h
mutual
def pyW : W → Option PyData
  | .non => some .none
  | .bl b => some (.bool b)
  | .int i => some (.int i)
  | .str x => some (.str x)
  | .tup ws => (pyWs ws).map .tuple
  | .lro ws => (pyWs ws).map .list
  | .ref _ => none
  | .fn _ => none
  | .xob _ => none
def pyWs : List W → Option (List PyData)
  | [] => some []
  | w :: ws => match pyW w, pyWs ws with
    | some d, some ds => some (d :: ds)
    | _, _ => none
end
def pyS (s : Sto) : Nat → W → Option PyData
  | 0, _ => none
  | n + 1, .ref k => match s[k]? with
    | some (.lst ws) => (ws.mapM (pyS s n)).map .list
    | _ => none
  | _ + 1, w => pyW w
mutual
theorem dp_of {m : List Addr} {H : Hp} : ∀ {w : W} {v : V} {d : PyData}, R K m H w v → pyW w = some d → Dp K H v d
  | .non, v, d, r, e => by cases r; rw [pyW] at e; cases e; exact .non
  | .bl _, v, d, r, e => by cases r; rw [pyW] at e; cases e; exact .bl _
  | .int _, v, d, r, e => by cases r; rw [pyW] at e; cases e; exact .int _
  | .str _, v, d, r, e => by cases r; rw [pyW] at e; cases e; exact .str _
  | .tup ws, v, d, r, e => by
    cases r with
    | tup h1 h2 =>
      rw [pyW] at e
      cases eds : pyWs ws with
      | none => rw [eds] at e; cases e
      | some ds =>
        rw [eds] at e
        cases e
        exact .tup h1.sq (dps_of h2 eds)
  | .lro ws, v, d, r, e => by
    cases r with
    | lro h1 h2 =>
      rw [pyW] at e
      cases eds : pyWs ws with
      | none => rw [eds] at e; cases e
      | some ds =>
        rw [eds] at e
        cases e
        exact .lst h1.sq (dps_of h2 eds)
  | .ref _, v, d, r, e => by rw [pyW] at e; cases e
  | .fn _, v, d, r, e => by rw [pyW] at e; cases e
  | .xob _, v, d, r, e => by rw [pyW] at e; cases e
theorem dps_of {m : List Addr} {H : Hp} : ∀ {ws : List W} {vs : List V} {ds : List PyData}, RL K m H ws vs → pyWs ws = some ds → DpAll K H vs ds
  | [], vs, ds, r, e => by cases r; rw [pyWs] at e; cases e; exact .nil
  | w :: ws, vs, ds, r, e => by
    cases r with
    | cons h1 h2 =>
      rw [pyWs] at e
      cases e1 : pyW w with
      | none => rw [e1] at e; cases e
      | some d1 =>
        cases e2 : pyWs ws with
        | none => rw [e1, e2] at e; cases e
        | some d2 =>
          rw [e1, e2] at e
          cases e
          exact .cons (dp_of h1 e1) (dps_of h2 e2)
end
theorem dpS_of {m : List Addr} {H : Hp} {s : Sto} (S : SR K m H s) : ∀ {n : Nat} {w : W} {v : V} {d : PyData}, R K m H w v → pyS s n w = some d → Dp K H v d
  | 0, w, v, d, r, e => by rw [pyS] at e; cases e
  | n + 1, .ref k, v, d, r, e => by
    rw [pyS] at e
    cases ek : s[k]? with
    | none => simp only [ek] at e; cases e
    | some o =>
      cases o with
      | dct _ => simp only [ek] at e; cases e
      | dtt _ => simp only [ek] at e; cases e
      | lam _ _ => simp only [ek] at e; cases e
      | tab _ _ => simp only [ek] at e; cases e
      | dead => simp only [ek] at e; cases e
      | frd _ => simp only [ek] at e; cases e
      | frt _ => simp only [ek] at e; cases e
      | ins _ _ => simp only [ek] at e; cases e
      | lst ws =>
        simp only [ek] at e
        cases em : ws.mapM (pyS s n) with
        | none => rw [em] at e; cases e
        | some ds =>
          rw [em] at e
          cases e
          cases r with
          | @ref _ a hk =>
            obtain ⟨a', ha, vs, h1, h2⟩ := S.at ek
            rw [hk] at ha; cases ha
            refine .lst (SqL.of h1) ?_
            clear hk h1 ek
            induction ws generalizing vs ds with
            | nil => cases h2; cases em; exact .nil
            | cons x r ih =>
              cases h2 with
              | cons r1 r2 =>
                rw [List.mapM_cons] at em
                cases ex : pyS s n x with
                | none => rw [ex] at em; cases em
                | some dx =>
                  rw [ex] at em
                  cases er : r.mapM (pyS s n) with
                  | none => rw [er] at em; cases em
                  | some dr =>
                    rw [er] at em
                    cases em
                    exact .cons (dpS_of S r1 ex) (ih _ er _ r2)
  | _ + 1, .non, v, d, r, e => dp_of r (by simpa only [pyS] using e)
  | _ + 1, .bl _, v, d, r, e => dp_of r (by simpa only [pyS] using e)
  | _ + 1, .int _, v, d, r, e => dp_of r (by simpa only [pyS] using e)
  | _ + 1, .str _, v, d, r, e => dp_of r (by simpa only [pyS] using e)
  | _ + 1, .tup _, v, d, r, e => dp_of r (by simpa only [pyS] using e)
  | _ + 1, .lro _, v, d, r, e => dp_of r (by simpa only [pyS] using e)
  | _ + 1, .fn _, v, d, r, e => by simp only [pyS, pyW] at e; cases e
  | _ + 1, .xob _, v, d, r, e => by simp only [pyS, pyW] at e; cases e
def sEq : W → W → Option Bool
  | .int i, .int j => some (decide (i = j))
  | .str a, .str b => some (decide (a = b))
  | .bl a, .bl b => some (decide (a = b))
  | .non, .non => some true
  | .non, .int _ => some false
  | .int _, .non => some false
  | .non, .str _ => some false
  | .str _, .non => some false
  | .non, .bl _ => some false
  | .bl _, .non => some false
  | .int _, .str _ => some false
  | .str _, .int _ => some false
  | .bl _, .str _ => some false
  | .str _, .bl _ => some false
  | _, _ => none
def datEq (s : Sto) (x y : W) : Option Bool := match pyS s 3 x, pyS s 3 y with
  | some d, some e => if SeqAt.shaped d = true ∧ SeqAt.shaped e = true then some (PyData.eqv d e) else none
  | _, _ => none
def eqW (s : Sto) (x y : W) : Option Bool := match sEq x y with
  | some b => some b
  | none => datEq s x y
def gEq : W → W → Sto → Rz W := fun x y s => match eqW s x y with
  | some b => some (.bl b, s)
  | none => none
def gNe : W → W → Sto → Rz W := fun x y s => match eqW s x y with
  | some b => some (.bl (!b), s)
  | none => none
def rEqA (K : PySem.W.Frag) : R2 := fun x y H Q => rEq x y H Q ∨ rEqD K x y H Q
def rNeA (K : PySem.W.Frag) : R2 := fun x y H Q => rNe x y H Q ∨ rNeD K x y H Q
theorem op_eqA {X : Cx} (hu : X.A.units + 64 < cLine) : OpR X (compareOp .Eq) (rEqA X.K) := op_eq.or (op_eqD hu)
theorem op_neA {X : Cx} (hu : X.A.units + 64 < cLine) : OpR X (compareOp .NotEq) (rNeA X.K) := op_ne.or (op_neD hu)
theorem eq_cases {m : List Addr} {H : Hp} {s : Sto} {x y : W} {v u : V} {b : Bool} (S : SR K m H s) (rx : R K m H x v) (ry : R K m H y u) (e : eqW s x y = some b) :
    (scal v u = true ∧ decide (v = u) = b) ∨ ∃ d d', Dp K H v d ∧ Dp K H u d' ∧ SeqAt.shaped d = true ∧ SeqAt.shaped d' = true ∧ PyData.eqv d d' = b := by
  unfold eqW at e
  cases es : sEq x y with
  | some b' =>
    simp only [es] at e
    cases e
    left
    cases rx <;> cases ry <;> simp only [sEq, Option.some.injEq, reduceCtorEq] at es <;> subst es <;> refine ⟨rfl, ?_⟩ <;> simp
  | none =>
    simp only [es] at e
    right
    unfold datEq at e
    cases e1 : pyS s 3 x with
    | none => simp only [e1] at e; cases e
    | some d =>
      cases e2 : pyS s 3 y with
      | none => simp only [e1, e2] at e; cases e
      | some d' =>
        simp only [e1, e2] at e
        split at e
        · rename_i hh
          cases e
          exact ⟨d, d', dpS_of S rx e1, dpS_of S ry e2, hh.1, hh.2, rfl⟩
        · cases e
theorem f_eq : OpF K (rEqA K) gEq := by
  intro m H s x y v u Q S rx ry h
  cases e : eqW s x y with
  | none => simp only [gEq, e] at h; obtain ⟨_, _, e, _⟩ := h; cases e
  | some b =>
    simp only [gEq, e] at h
    have q := h.val S _ (.bl b)
    rcases eq_cases S rx ry e with ⟨h1, h2⟩ | ⟨d, d', h1, h2, h3, h4, h5⟩
    · exact .inl ⟨h1, by rw [h2]; exact q⟩
    · exact .inr ⟨d, d', h1, h2, h3, h4, by rw [h5]; exact q⟩
theorem f_ne : OpF K (rNeA K) gNe := by
  intro m H s x y v u Q S rx ry h
  cases e : eqW s x y with
  | none => simp only [gNe, e] at h; obtain ⟨_, _, e, _⟩ := h; cases e
  | some b =>
    simp only [gNe, e] at h
    have q := h.val S _ (.bl (!b))
    rcases eq_cases S rx ry e with ⟨h1, h2⟩ | ⟨d, d', h1, h2, h3, h4, h5⟩
    · exact .inl ⟨h1, by rw [h2]; exact q⟩
    · exact .inr ⟨d, d', h1, h2, h3, h4, by rw [h5]; exact q⟩
def isNon : W → Bool
  | .non => true
  | _ => false
def gIs : W → W → Sto → Rz W := fun x y s => match x, y with
  | .bl a, .bl b => some (.bl (decide (a = b)), s)
  | x, .non => some (.bl (isNon x), s)
  | .non, .bl _ => some (.bl false, s)
  | .int _, .bl _ => some (.bl false, s)
  | .str _, .bl _ => some (.bl false, s)
  | .ref _, .bl _ => some (.bl false, s)
  | .tup _, .bl _ => some (.bl false, s)
  | _, _ => none
def gIsNot : W → W → Sto → Rz W := fun x y s => match x, y with
  | .bl a, .bl b => some (.bl (!decide (a = b)), s)
  | x, .non => some (.bl (!isNon x), s)
  | .non, .bl _ => some (.bl true, s)
  | .int _, .bl _ => some (.bl true, s)
  | .str _, .bl _ => some (.bl true, s)
  | .ref _, .bl _ => some (.bl true, s)
  | .tup _, .bl _ => some (.bl true, s)
  | _, _ => none

def noB (x : V) : Prop := x = .non ∨ (∃ i, x = .int i) ∨ (∃ z, x = .str z) ∨ ∃ a, x = .ref a
def rIsA : R2 := fun x y H Q => (y = .non ∧ Q (.bl (decide (x = .non))) H) ∨ rIsB x y H Q ∨ (∃ b, noB x ∧ y = .bl b ∧ Q (.bl false) H)
def rNotA : R2 := fun x y H Q => (y = .non ∧ Q (.bl (!decide (x = .non))) H) ∨ rNotB x y H Q ∨ (∃ b, noB x ∧ y = .bl b ∧ Q (.bl true) H)
def flatW : W → Bool
  | .non => true
  | .bl _ => true
  | .int _ => true
  | .str _ => true
  | _ => false
def eqF : W → W → Bool
  | .non, .non => true
  | .bl a, .bl b => a == b
  | .bl a, .int b => (if a then 1 else 0) == b
  | .int a, .bl b => a == (if b then 1 else 0)
  | .int a, .int b => a == b
  | .str a, .str b => a == b
  | _, _ => false
def inW (x : W) (ws : List W) : Bool := ws.any fun y => eqF y x
theorem flat_of {m : List Addr} {H : Hp} {x : W} {v : V} (r : R K m H x v) (h : flatW x = true) : flatV v = true := by
  cases r <;> first | rfl | cases h
theorem eqF_of {m : List Addr} {H : Hp} {x y : W} {v u : V} (rx : R K m H x v) (ry : R K m H y u) (hx : flatW x = true) : eqV v u = eqF x y := by
  cases rx with
  | tup => cases hx
  | lro => cases hx
  | ref => cases hx
  | _ => cases ry <;> rfl
theorem in_of {m : List Addr} {H : Hp} {x : W} {v : V} (rx : R K m H x v) : ∀ {ws : List W} {vs : List V}, RL K m H ws vs → ws.all flatW = true → vs.all flatV = true ∧ inV v vs = inW x ws
  | [], vs, r, _ => by cases r; exact ⟨rfl, rfl⟩
  | w :: ws, vs, r, h => by
    cases r with
    | cons h1 h2 =>
      rw [List.all_cons, Bool.and_eq_true] at h
      obtain ⟨q1, q2⟩ := in_of rx h2 h.2
      refine ⟨by rw [List.all_cons, flat_of h1 h.1, q1]; rfl, ?_⟩
      unfold inV inW at q2 ⊢
      rw [List.any_cons, List.any_cons, q2, eqF_of h1 rx h.1]
def datIn (s : Sto) (x y : W) : Option Bool := match pyS s 3 x, pyS s 3 y with
  | some d, some (.list ds) => if SeqAt.shaped d = true ∧ SeqAt.shaped (.list ds) = true then some (ds.any fun z => PyData.eqv z d) else none
  | _, _ => none
def insW (s : Sto) (x y : W) : Option Bool := match x, y with
  | .str a, .str z => some (!(Builtin.Str.occurrences z a 0 z.length 1).isEmpty)
  | x, y => match seqOf y s with
    | some ws => if flatW x = true ∧ ws.all flatW = true then some (inW x ws) else datIn s x y
    | none => none
def gIn : W → W → Sto → Rz W := fun x y s => match insW s x y with
  | some b => some (.bl b, s)
  | none => none
def gNotIn : W → W → Sto → Rz W := fun x y s => match insW s x y with
  | some b => some (.bl (!b), s)
  | none => none
def rInA (K : PySem.W.Frag) : R2 := fun x y H Q => rIn K false x y H Q ∨ (∃ i j, x = .str i ∧ y = .str j ∧ Q (.bl (!(Builtin.Str.occurrences j i 0 j.length 1).isEmpty)) H) ∨ rInD K x y H Q
def rNotInA (K : PySem.W.Frag) : R2 := fun x y H Q => rIn K true x y H Q ∨ (∃ i j, x = .str i ∧ y = .str j ∧ Q (.bl (!(!(Builtin.Str.occurrences j i 0 j.length 1).isEmpty))) H) ∨ rNotInD K x y H Q
theorem op_inA {X : Cx} (hu : X.A.units + 65 < cLine) : OpR X (compareOp .In) (rInA X.K) := op_in_seq.or (op_in_str.or (op_inD hu))
theorem ins_cases {m : List Addr} {H : Hp} {s : Sto} {x y : W} {v u : V} {b : Bool} (S : SR K m H s) (rx : R K m H x v) (ry : R K m H y u) (e : insW s x y = some b) :
    (∃ p xs, u = .ref p ∧ (SqL K H p xs ∨ SqT K H p xs) ∧ flatV v = true ∧ xs.all flatV = true ∧ inV v xs = b) ∨
    (∃ i j, v = .str i ∧ u = .str j ∧ (!(Builtin.Str.occurrences j i 0 j.length 1).isEmpty) = b) ∨
    ∃ d ds, Dp K H v d ∧ Dp K H u (.list ds) ∧ SeqAt.shaped d = true ∧ SeqAt.shaped (.list ds) = true ∧ (ds.any fun z => PyData.eqv z d) = b := by
  have main : (match seqOf y s with
    | some ws => if flatW x = true ∧ ws.all flatW = true then some (inW x ws) else datIn s x y
    | none => none) = some b → (∃ p xs, u = .ref p ∧ (SqL K H p xs ∨ SqT K H p xs) ∧ flatV v = true ∧ xs.all flatV = true ∧ inV v xs = b) ∨
    ∃ d ds, Dp K H v d ∧ Dp K H u (.list ds) ∧ SeqAt.shaped d = true ∧ SeqAt.shaped (.list ds) = true ∧ (ds.any fun z => PyData.eqv z d) = b := fun e => by
    cases es : seqOf y s with
    | none => simp only [es] at e; cases e
    | some ws =>
      simp only [es] at e
      split at e
      · rename_i hf
        cases e
        obtain ⟨p, vs, hu, hs, r⟩ := seq_of S ry es
        obtain ⟨q1, q2⟩ := in_of rx r hf.2
        exact .inl ⟨p, vs, hu, hs.symm, flat_of rx hf.1, q1, q2⟩
      · unfold datIn at e
        cases e1 : pyS s 3 x with
        | none => simp only [e1] at e; cases e
        | some d =>
          cases e2 : pyS s 3 y with
          | none => simp only [e1, e2] at e; cases e
          | some d' =>
            cases d' with
            | list ds =>
              simp only [e1, e2] at e
              split at e
              · rename_i hh
                cases e
                exact .inr ⟨d, ds, dpS_of S rx e1, dpS_of S ry e2, hh.1, hh.2, rfl⟩
              · cases e
            | _ => simp only [e1, e2] at e; cases e
  cases rx with
  | str a =>
    cases ry with
    | str z =>
      simp only [insW] at e
      exact .inr (.inl ⟨a, z, rfl, rfl, Option.some.inj e⟩)
    | _ => simp only [insW] at e; exact (main e).elim Or.inl fun h => Or.inr (Or.inr h)
  | _ => simp only [insW] at e; exact (main e).elim Or.inl fun h => Or.inr (Or.inr h)
theorem f_in : OpF K (rInA K) gIn := by
  intro m H s x y v u Q S rx ry h
  cases e : insW s x y with
  | none => simp only [gIn, e] at h; obtain ⟨_, _, e, _⟩ := h; cases e
  | some b =>
    simp only [gIn, e] at h
    have q := h.val S _ (.bl b)
    rcases ins_cases S rx ry e with ⟨p, xs, hu, h1, h2, h3, h4⟩ | ⟨i, j, h1, h2, h3⟩ | ⟨d, ds, h1, h2, h3, h4, h5⟩
    · exact .inl ⟨p, xs, hu, h1, h2, h3, by rw [h4]; exact q⟩
    · exact .inr (.inl ⟨i, j, h1, h2, by rw [h3]; exact q⟩)
    · exact .inr (.inr ⟨d, ds, h1, h2, h3, h4, by rw [h5]; exact q⟩)
def lenW (x : W) (s : Sto) : Option Nat := match x with
  | .str z => if z.length ≤ sizeLine then some z.length else none
  | .ref n => match s[n]? with
    | some (.lst ws) => some ws.length
    | some (.dct kvs) => some kvs.length
    | _ => none
  | x => (seqOf x s).map List.length
def gLen : List W → Sto → Rz W := fun ws s => match ws with
  | [x] => match lenW x s with
    | some n => some (.int n, s)
    | none => none
  | _ => none
def rLenA (K : PySem.W.Frag) : List V → Hp → VK → Prop := fun xs H Q => (∃ p ys, xs = [.ref p] ∧ (SqL K H p ys ∨ SqT K H p ys) ∧ Q (.int ys.length) H) ∨ (∃ z, xs = [.str z] ∧ z.length ≤ sizeLine ∧ Q (.int z.length) H) ∨ (∃ d kvs, xs = [V.ref d] ∧ H d = some (.dK kvs) ∧ Q (.int kvs.length) H)
theorem RK.len {m : List Addr} {H : Hp} : ∀ {ws : List (Key × W)} {vs : List (Key × V)}, RK K m H ws vs → vs.length = ws.length
  | [], _, h => by cases h; rfl
  | w :: ws, _, h => by
    cases h with
    | cons h1 h2 => rw [List.length_cons, List.length_cons, RK.len h2]
end
end Mir

set_option Elab.async false
set_option linter.all false
set_option maxRecDepth 100000
namespace Vr
open PySem PySem.Spec PyProof.Rows L2
section
variable {X : Cx}
def rExtT (K : PySem.W.Frag) : V → List V → Hp → VK → Prop := fun x vs H Q => ∃ l b xs zs, x = .ref l ∧ vs = [.ref b] ∧ H l = some (.lst xs) ∧ SqT K H b zs ∧ xs.length + zs.length ≤ sizeLine ∧ Q .non (upd H l (.lst (xs ++ zs)))
end

section
variable {prog : Program} {w : World} {A : Around} {E : Value → Shared → Prop} {s : Shared}
end
def tRevT (K : PySem.W.Frag) (te : TE) : TE := fun σ H Q => te σ H fun x H1 => ∃ a xs, x = .ref a ∧ SqT K H1 a xs ∧ ∀ p, H1 p = none → Q (.ref p) (upd H1 p (.tup xs.reverse))
section
variable {X : Cx}
end

section
variable {prog : Program} {w : World} {A : Around} {E : Value → Shared → Prop} {s : Shared} {T : String} {r d : Addr} {n : Nat} {P : Nat → Value → Prop} {OK : Heap → Prop}
open PySem.W in
open PySem.W in
open PySem.W in
end
section
variable {X : Cx}
end
end Vr

set_option Elab.async false
set_option linter.all false
set_option maxRecDepth 100000
namespace Mir
open PySem PySem.Spec PyProof.Rows L2
section
variable {K : PySem.W.Frag}
theorem nopeE {m : List Addr} {H : Hp} {Q : VK} {P : Prop} (h : wE K m H (none : Rz W) Q) : P := by obtain ⟨_, _, e, _⟩ := h; cases e
theorem nopeE' {m : List Addr} {H : Hp} {Q : VK} {P : Prop} {x : Rz W} (h : wE K m H x Q) (e : x = none) : P := by rw [e] at h; exact nopeE h
theorem call_lenA {X : Cx} : CallR X (.builtin "len") (rLenA X.K) := call_len_seq.or (call_len_str.or call_lenD)
theorem f_len : CallF K (rLenA K) gLen := by
  intro m H s ws vs Q S r h
  cases r with
  | nil => exact nopeE h
  | @cons x v ws vs r1 r2 =>
    cases r2 with
    | cons _ _ => exact nopeE h
    | nil =>
      have seq : ∀ {xs}, seqOf x s = some xs → Q (.int xs.length) H → rLenA K [v] H Q := fun {xs} e q => by
        obtain ⟨p, vs, rfl, hs, r⟩ := seq_of S r1 e
        rw [← r.len] at q
        exact .inl ⟨p, vs, rfl, hs.symm, q⟩
      cases r1 with
      | str z =>
        by_cases q : z.length ≤ sizeLine
        · simp only [gLen, lenW, q, if_true] at h
          exact .inr (.inl ⟨z, rfl, q, h.val S _ (.int _)⟩)
        · simp only [gLen, lenW, q, if_false] at h; exact nopeE h
      | tup h1 h2 => exact seq rfl (h.val S _ (.int _))
      | lro h1 h2 => exact seq rfl (h.val S _ (.int _))
      | @ref n a h1 =>
        cases en : s[n]? with
        | none => simp only [gLen, lenW, en] at h; exact nopeE h
        | some o =>
          cases o with
          | lst xs =>
            simp only [gLen, lenW, en] at h
            exact seq (by simp only [seqOf, en]) (h.val S _ (.int _))
          | dtt _ => exact nopeE' h (by simp only [gLen, lenW, en])
          | dct kvs =>
            simp only [gLen, lenW, en] at h
            obtain ⟨a', h2, vs, h3, h4⟩ := S.at en
            rw [h1] at h2; cases h2
            have q := h.val S _ (.int _)
            rw [← h4.len] at q
            exact .inr (.inr ⟨a, vs, rfl, h3, q⟩)
          | _ => simp only [gLen, lenW, en] at h; exact nopeE h
      | _ => exact nopeE h
def g1I (f : Int → W) : List W → Sto → Rz W := fun ws s => match ws with
  | [.int i] => some (f i, s)
  | _ => none
def g2I (f : Int → Int → W) : List W → Sto → Rz W := fun ws s => match ws with
  | [.int i, .int j] => some (f i j, s)
  | _ => none
theorem f_1I {g : Int → V} {f : Int → W} (hf : ∀ m H i, R K m H (f i) (g i)) : CallF K (fun xs H Q => ∃ i, xs = [.int i] ∧ Q (g i) H) (g1I f) := by
  intro m H s ws vs Q S r h
  cases r with
  | nil => exact nopeE h
  | cons r1 r2 =>
    cases r2 with
    | cons _ _ => cases r1 <;> exact nopeE h
    | nil =>
      cases r1 with
      | int i => exact ⟨i, rfl, h.val S _ (hf m H i)⟩
      | _ => exact nopeE h
abbrev gAbs := g1I fun i => .int (if i < 0 then -i else i)
abbrev gMax2 := g2I fun i j => .int (if j > i then j else i)
abbrev gMin2 := g2I fun i j => .int (if j < i then j else i)
theorem f_abs : CallF K (fun xs H Q => ∃ i, xs = [.int i] ∧ Q (.int (if i < 0 then -i else i)) H) gAbs := f_1I fun _ _ _ => .int _
def gInt1 : List W → Sto → Rz W := fun ws s => match ws with
  | [.int i] => some (.int i, s)
  | [.bl k] => some (.int (if k then 1 else 0), s)
  | _ => none
theorem f_int1 : CallF K (fun xs H Q => (∃ i, xs = [.int i] ∧ Q (.int i) H) ∨ ∃ k, xs = [.bl k] ∧ Q (.int (if k then 1 else 0)) H) gInt1 := by
  intro m H s ws vs Q S r h
  cases r with
  | nil => exact nopeE h
  | cons r1 r2 =>
    cases r2 with
    | cons _ _ => cases r1 <;> exact nopeE h
    | nil =>
      cases r1 with
      | int i => exact .inl ⟨i, rfl, h.val S _ (.int _)⟩
      | bl i => exact .inr ⟨i, rfl, h.val S _ (.int _)⟩
      | _ => exact nopeE h
def gStr1 : List W → Sto → Rz W := fun ws s => match ws with
  | [.int i] => if i.natAbs.log2 < 1920 then some (.str (toString i), s) else none
  | _ => none
theorem f_str1 : CallF K (fun xs H Q => ∃ i, xs = [.int i] ∧ i.natAbs.log2 < 1920 ∧ Q (.str (toString i)) H) gStr1 := by
  intro m H s ws vs Q S r h
  cases r with
  | nil => exact nopeE h
  | cons r1 r2 =>
    cases r2 with
    | cons _ _ => cases r1 <;> exact nopeE h
    | nil =>
      cases r1 with
      | int i =>
        by_cases q : i.natAbs.log2 < 1920
        · simp only [gStr1, q, if_true] at h
          exact ⟨i, rfl, q, h.val S _ (.str _)⟩
        · simp only [gStr1, q, if_false] at h; exact nopeE h
      | _ => exact nopeE h
def gTuple : List W → Sto → Rz W := fun ws s => match ws with
  | [.tup xs] => some (.tup xs, s)
  | [x] => match seqOf x s with
    | some xs => some (.tup xs, s)
    | none => none
  | _ => none
def gList : List W → Sto → Rz W := fun ws s => match ws with
  | [x] => match seqOf x s with
    | some xs => some (.ref s.length, s ++ [.lst xs])
    | none => none
  | _ => none
theorem f_tuple : CallF K (fun xs H Q => ∃ p ys, xs = [.ref p] ∧ ((SqL K H p ys ∧ ∀ l, H l = none → Q (.ref l) (upd H l (.tup ys))) ∨ (SqT K H p ys ∧ Q (.ref p) H))) gTuple := by
  intro m H s ws vs Q S r h
  cases r with
  | nil => exact nopeE h
  | @cons x v ws vs r1 r2 =>
    cases r2 with
    | cons _ _ => cases r1 <;> exact nopeE h
    | nil =>
      have lst : ∀ {p xs ys}, v = .ref p → SqL K H p ys → RL K m H xs ys → wE K m H (some (.tup xs, s)) Q → ∃ p ys, [v] = [.ref p] ∧ ((SqL K H p ys ∧ ∀ l, H l = none → Q (.ref l) (upd H l (.tup ys))) ∨ (SqT K H p ys ∧ Q (.ref p) H)) := fun {p xs ys} e hs r ⟨w, s', e2, q⟩ => by
        subst e
        cases e2
        exact ⟨p, ys, rfl, .inl ⟨hs, fun l hl => new_tup S r hl q⟩⟩
      cases r1 with
      | tup h1 h2 => exact ⟨_, _, rfl, .inr ⟨h1.sq, h.val S _ (.tup h1 h2)⟩⟩
      | lro h1 h2 => exact lst rfl h1.sq h2 h
      | @ref n a h1 =>
        cases en : s[n]? with
        | none => exact nopeE' h (by simp only [gTuple, seqOf, en])
        | some o =>
          cases o with
          | dct _ => exact nopeE' h (by simp only [gTuple, seqOf, en])
          | dtt _ => exact nopeE' h (by simp only [gTuple, seqOf, en])
          | lam _ _ => exact nopeE' h (by simp only [gTuple, seqOf, en])
          | tab _ _ => exact nopeE' h (by simp only [gTuple, seqOf, en])
          | dead => exact nopeE' h (by simp only [gTuple, seqOf, en])
          | frd _ => exact nopeE' h (by simp only [gTuple, seqOf, en])
          | frt _ => exact nopeE' h (by simp only [gTuple, seqOf, en])
          | ins _ _ => exact nopeE' h (by simp only [gTuple, seqOf, en])
          | lst xs =>
            obtain ⟨a', h2, vs, h3, h4⟩ := S.at en
            rw [h1] at h2; cases h2
            refine lst rfl (SqL.of h3) h4 ?_
            have e : gTuple [.ref n] s = some (.tup xs, s) := by simp only [gTuple, seqOf, en]
            rw [e] at h
            exact h
      | _ => exact nopeE h
def intsOf : List W → Option (List Int)
  | [] => some []
  | .int i :: r => match intsOf r with
    | some is => some (i :: is)
    | none => none
  | _ => none
def blsOf : List W → Option (List Bool)
  | [] => some []
  | .bl i :: r => match blsOf r with
    | some is => some (i :: is)
    | none => none
  | _ => none
def strsOf : List W → Option (List Str)
  | [] => some []
  | .str i :: r => match strsOf r with
    | some is => some (i :: is)
    | none => none
  | _ => none
theorem strs_of {m : List Addr} {H : Hp} : ∀ {ws : List W} {vs : List V} {is : List Str}, RL K m H ws vs → strsOf ws = some is → vs = is.map V.str
  | [], vs, is, r, e => by cases r; cases e; rfl
  | w :: ws, vs, is, r, e => by
    cases r with
    | cons h1 h2 =>
      cases h1 with
      | str i =>
        simp only [strsOf] at e
        cases e2 : strsOf ws with
        | none => rw [e2] at e; cases e
        | some js => rw [e2] at e; cases e; rw [strs_of h2 e2]; rfl
      | _ => cases e
def lstOf (x : W) (s : Sto) : Option (List W) := match x with
  | .lro ws => some ws
  | .ref n => match s[n]? with
    | some (.lst ws) => some ws
    | _ => none
  | _ => none
theorem lst_of {m : List Addr} {H : Hp} {s : Sto} {x : W} {v : V} {ws : List W} (S : SR K m H s) (r : R K m H x v) (h : lstOf x s = some ws) : ∃ p vs, v = .ref p ∧ SqL K H p vs ∧ RL K m H ws vs := by
  cases r with
  | lro h1 h2 => cases h; exact ⟨_, _, rfl, h1.sq, h2⟩
  | @ref n a h1 =>
    cases e : s[n]? with
    | none => simp only [lstOf, e] at h; cases h
    | some o =>
      cases o with
      | dct _ => simp only [lstOf, e] at h; cases h
      | dtt _ => simp only [lstOf, e] at h; cases h
      | lam _ _ => simp only [lstOf, e] at h; cases h
      | tab _ _ => simp only [lstOf, e] at h; cases h
      | dead => simp only [lstOf, e] at h; cases h
      | frd _ => simp only [lstOf, e] at h; cases h
      | frt _ => simp only [lstOf, e] at h; cases h
      | ins _ _ => simp only [lstOf, e] at h; cases h
      | lst ws' =>
        simp only [lstOf, e] at h
        cases h
        obtain ⟨a', h2, vs, h3, h4⟩ := S.at e
        rw [h1] at h2
        cases h2
        exact ⟨_, _, rfl, SqL.of h3, h4⟩
  | _ => cases h
def gLB (f : List Bool → Bool) : List W → Sto → Rz W := fun ws s => match ws with
  | [x] => match lstOf x s with
    | some xs => match blsOf xs with
      | some bs => some (.bl (f bs), s)
      | none => none
    | none => none
  | _ => none
abbrev gAll := gLB fun bs => bs.all id
abbrev gAny := gLB fun bs => bs.any id
def gSum : List W → Sto → Rz W := fun ws s => match ws with
  | [x] => match lstOf x s with
    | some xs => match intsOf xs with
      | some is => some (.int is.sum, s)
      | none => none
    | none => none
  | _ => none
def maxI : List Int → Int
  | [] => 0
  | x :: r => r.foldl (fun a b => if b > a then b else a) x
def gMaxL : List W → Sto → Rz W := fun ws s => match ws with
  | [x] => match lstOf x s with
    | some xs => match intsOf xs with
      | some is => if 0 < is.length then some (.int (maxI is), s) else none
      | none => none
    | none => none
  | _ => none
def isL (x : W) (s : Sto) : Bool := match x with
  | .ref n => match s[n]? with
    | some (.lst _) => true
    | _ => false
  | _ => false
theorem isL_ty {m : List Addr} {H : Hp} {s : Sto} {x : W} {v : V} (S : SR K m H s) (r : R K m H x v) (h : isL x s = true) : tyV K "list" v H := by
  cases r with
  | @ref n a h1 =>
    cases e : s[n]? with
    | none => simp only [isL, e] at h; cases h
    | some o =>
      cases o with
      | dct _ => simp only [isL, e] at h; cases h
      | dtt _ => simp only [isL, e] at h; cases h
      | lam _ _ => simp only [isL, e] at h; cases h
      | tab _ _ => simp only [isL, e] at h; cases h
      | dead => simp only [isL, e] at h; cases h
      | frd _ => simp only [isL, e] at h; cases h
      | frt _ => simp only [isL, e] at h; cases h
      | ins _ _ => simp only [isL, e] at h; cases h
      | lst ws =>
        obtain ⟨a', h2, vs, h3, h4⟩ := S.at e
        rw [h1] at h2; cases h2
        exact .inl ⟨rfl, vs, SqL.of h3⟩
  | _ => cases h
def gLm (f : List W → List W → Sto → Option (W × List W)) : W → List W → Sto → Rz W := fun x as s => match x with
  | .ref n => match s[n]? with
    | some (.lst ws) => match f ws as s with
      | some (w, ws') => some (w, s.set n (.lst ws'))
      | none => none
    | _ => none
  | _ => none
theorem f_Lm {r : V → List V → Hp → VK → Prop} {f : List W → List W → Sto → Option (W × List W)}
    (h : ∀ m H s l (ws : List W) (vs : List V) as bs w ws' Q, SR K m H s → H l = some (.lst vs) → RL K m H ws vs → RL K m H as bs → f ws as s = some (w, ws') → (∀ z zs, (∀ m' H', Ext m H m' H' → R K m' H' w z) → (∀ m' H', Ext m H m' H' → RL K m' H' ws' zs) → Q z (upd H l (.lst zs))) → r (.ref l) bs H Q) : MtF K r (gLm f) := by
  intro m H s x v ws vs Q S rx rs hw
  cases rx with
  | @ref n a h1 =>
    cases e : s[n]? with
    | none => exact nopeE' hw (by simp only [gLm, e])
    | some o =>
      cases o with
      | dct _ => exact nopeE' hw (by simp only [gLm, e])
      | dtt _ => exact nopeE' hw (by simp only [gLm, e])
      | lam _ _ => exact nopeE' hw (by simp only [gLm, e])
      | tab _ _ => exact nopeE' hw (by simp only [gLm, e])
      | dead => exact nopeE' hw (by simp only [gLm, e])
      | frd _ => exact nopeE' hw (by simp only [gLm, e])
      | frt _ => exact nopeE' hw (by simp only [gLm, e])
      | ins _ _ => exact nopeE' hw (by simp only [gLm, e])
      | lst xs =>
        obtain ⟨a', h2, ys, h3, h4⟩ := S.at e
        rw [h1] at h2; cases h2
        cases ef : f xs ws s with
        | none => exact nopeE' hw (by simp only [gLm, e, ef])
        | some p =>
          obtain ⟨w, ws'⟩ := p
          simp only [gLm, e, ef] at hw
          obtain ⟨w2, s2, e2, q⟩ := hw
          cases e2
          refine h m H s a xs ys ws vs w ws' Q S h3 h4 rs ef fun z zs hz hzs => ?_
          have A := Adv.write S h1 (o := .lst zs) ⟨_, h3, .inl ⟨_, rfl⟩⟩
          exact q m _ z A (S.write h1 ⟨_, h3, .inl ⟨_, rfl⟩⟩ ⟨zs, upd_same, hzs m _ A.ext⟩) (hz m _ A.ext)
  | _ => exact nopeE hw
def fAppend : List W → List W → Sto → Option (W × List W) := fun ws as _ => match as with
  | [x] => if ws.length ≤ 100000 then some (.non, ws ++ [x]) else none
  | _ => none
abbrev gAppend := gLm fAppend
theorem f_append : MtF K rAppend gAppend := f_Lm fun m H s l ws vs as bs w ws' Q S hl r ra e q => by
  cases ra with
  | nil => cases e
  | cons a1 a2 =>
    cases a2 with
    | cons _ _ => cases e
    | nil =>
      by_cases hz : ws.length ≤ 100000
      · simp only [fAppend, hz, if_true] at e
        cases e
        exact ⟨l, vs, _, rfl, rfl, hl, szt (by rw [r.len]; exact hz), q .non _ (fun _ _ _ => .non) fun _ _ E => (r.ext E).app (RL.one (a1.ext E))⟩
      · simp only [fAppend, hz, if_false] at e
        cases e
def fPop : List W → List W → Sto → Option (W × List W) := fun ws as _ => match as with
  | [] => match ws[ws.length - 1]? with
    | some x => some (x, ws.dropLast)
    | none => none
  | _ => none
abbrev gPop := gLm fPop
def fPopAt : List W → List W → Sto → Option (W × List W) := fun ws as _ => match as with
  | [.int i] => if -(2 ^ 63) ≤ i ∧ i < 2 ^ 63 then match seqIndex? i ws.length with
    | some k => match ws[k]? with
      | some x => some (x, ws.eraseIdx k)
      | none => none
    | none => none
    else none
  | _ => none
abbrev gPopAt := gLm fPopAt
def fExtend : List W → List W → Sto → Option (W × List W) := fun ws as s => match as with
  | [.tup xs] => if ws.length + xs.length ≤ 100000 then some (.non, ws ++ xs) else none
  | [.ref k] => match s[k]? with
    | some (.lst xs) => if ws.length + xs.length ≤ 100000 then some (.non, ws ++ xs) else none
    | _ => none
  | _ => none
abbrev gExtend := gLm fExtend
def rExtA (K : PySem.W.Frag) : V → List V → Hp → VK → Prop := fun x vs H Q => rExtend x vs H Q ∨ Vr.rExtT K x vs H Q
end
section
variable {X : Cx} {e o : Expr} {es : List Expr}
theorem m_bm {T id : String} {name : Str} {apos cpos : Pos} {r : V → List V → Hp → VK → Prop} {c : W → Sto → Bool} {g : W → List W → Sto → Rz W} {f : FE} {fa : FA} (pa : PlainAttrs T) (slot : Slot T name id) (hty : typeOf (.builtin id) = pure (.type "method_descriptor")) (hm : MtR X id r)
    (hc : ∀ m H s x v, SR X.K m H s → R X.K m H x v → c x s = true → tyV X.K T v H) (hg : MtF X.K r g) (ho : PE X o (tF X.K f)) (ha : PA X (e :: es) (tA X.K fa))
    (hbase : attributeBase o name X.env (eval o X.env) = eval o X.env := by rfl)
    (hfew : ((backTo cpos (starEach (e :: es) X.env)).all (fun x => !x.1) && (backToKw cpos (keywordEach [] X.env)).all (fun x => x.1.isSome)
      && decide ((e :: es).length + ([] : List Keyword).length + (if ([] : List Keyword).isEmpty then 0 else 1) < 30)) = true := by rfl)
    (hline : (apos.endLine == cpos.line) = true := by rfl) (hs : starEach (e :: es) X.env = (false, eval e X.env) :: starEach es X.env := by rfl) (hplain : (backTo cpos (starEach es X.env)).any (·.1) = false := by rfl) :
    PE X (.Call (.Attribute o name apos) (e :: es) [] cpos) (tF X.K (eMt c g f fa)) :=
  (pe_bm pa slot hty hm ho ha hbase hfew hline hs hplain).imp fun σ H Q ⟨m, ρ, s, er, sr, w, s', e, q⟩ => by
    obtain ⟨x, s1, e1, e⟩ := bd_inv e
    split at e
    · rename_i hcx
      obtain ⟨xs, s2, e2, e⟩ := bd_inv e
      exact ⟨m, ρ, s, er, sr, x, s1, e1, fun m1 H1 v A1 S1 r1 => ⟨hc m1 H1 s1 x v S1 r1 hcx, m1, ρ, s1, er.adv A1, S1, xs, s2, e2, fun m2 H2 vs A2 S2 r2 => hg m2 H2 s2 x v xs vs Q S2 (r1.adv A2) r2 ⟨w, s', e, fun m3 H3 z A3 => q m3 H3 z ((A1.trans A2).trans A3)⟩⟩⟩
    · cases e
theorem m_bm0 {T id : String} {name : Str} {apos cpos : Pos} {r : V → List V → Hp → VK → Prop} {c : W → Sto → Bool} {g : W → List W → Sto → Rz W} {f : FE} (pa : PlainAttrs T) (slot : Slot T name id) (hty : typeOf (.builtin id) = pure (.type "method_descriptor")) (hm : MtR X id r)
    (hc : ∀ m H s x v, SR X.K m H s → R X.K m H x v → c x s = true → tyV X.K T v H) (hg : MtF X.K r g) (ho : PE X o (tF X.K f))
    (hbase : attributeBase o name X.env (eval o X.env) = eval o X.env := by rfl) (hline : (apos.endLine == cpos.line) = true := by rfl) : PE X (.Call (.Attribute o name apos) [] [] cpos) (tF X.K (eMt c g f aNil)) :=
  (pe_bm0 pa slot hty hm ho hbase hline).imp fun σ H Q ⟨m, ρ, s, er, sr, w, s', e, q⟩ => by
    obtain ⟨x, s1, e1, e⟩ := bd_inv e
    split at e
    · rename_i hcx
      exact ⟨m, ρ, s, er, sr, x, s1, e1, fun m1 H1 v A1 S1 r1 => ⟨hc m1 H1 s1 x v S1 r1 hcx, hg m1 H1 s1 x v [] [] Q S1 r1 .nil ⟨w, s', e, fun m3 H3 z A3 => q m3 H3 z (A1.trans A3)⟩⟩⟩
    · cases e
theorem m_append {f : FE} {fa : FA} {apos cpos : Pos} (ho : PE X o (tF X.K f)) (ha : PA X [e] (tA X.K fa)) (hbase : attributeBase o "append" X.env (eval o X.env) = eval o X.env := by rfl)
    (hfew : ((backTo cpos (starEach [e] X.env)).all (fun x => !x.1) && (backToKw cpos (keywordEach [] X.env)).all (fun x => x.1.isSome)
      && decide ([e].length + ([] : List Keyword).length + (if ([] : List Keyword).isEmpty then 0 else 1) < 30)) = true := by rfl)
    (hline : (apos.endLine == cpos.line) = true := by rfl) (hs : starEach [e] X.env = (false, eval e X.env) :: starEach [] X.env := by rfl) (hplain : (backTo cpos (starEach [] X.env)).any (·.1) = false := by rfl) :
    PE X (.Call (.Attribute o "append" apos) [e] [] cpos) (tF X.K (eMt isL gAppend f fa)) :=
  m_bm PySem.F.plainAttrs_list PySem.F.slot_list_append PySem.F.type_list_append mt_append (fun _ _ _ _ _ S r h => isL_ty S r h) f_append ho ha hbase hfew hline hs hplain
end
end Mir

set_option Elab.async false
set_option linter.all false
set_option maxRecDepth 100000
namespace PySem
open Sem (wp)
open AutoSeq1 (wpAny_loadPart')
end PySem
namespace Vr
open PySem PySem.Spec PyProof.Rows L2
def IteT (K : PySem.W.Frag) (a : Addr) : It :=
  ⟨fun i H => ∃ (xs : List V) (x : V), SqT K H a xs ∧ xs[i]? = some x, fun i H v H' => ∃ T x, v = .ref T ∧ H T = none ∧ H' = upd H T (.tup [.int (i : Nat), x]) ∧ ∀ xs, SqT K H a xs → xs[i]? = some x, fun i H => ∃ xs : List V, SqT K H a xs ∧ xs.length ≤ i⟩
def iEnumT (K : PySem.W.Frag) (ta : TA) : TI := fun σ H R => ta σ H fun vs H1 => ∃ a xs, vs = [.ref a] ∧ SqT K H1 a xs ∧ R (IteT K a) H1
end Vr

set_option Elab.async false
set_option linter.all false
set_option maxRecDepth 100000
namespace Vr
open PySem PySem.Spec PyProof.Rows L2
section
variable {X : Cx}
end
end Vr

set_option Elab.async false
set_option linter.all false
set_option maxRecDepth 100000
namespace Mir
open PySem PySem.Spec PyProof.Rows L2
theorem _root_.L2.PI.or {X : Cx} {tg iter : Expr} {t u : TI} (h1 : PI X tg iter t) (h2 : PI X tg iter u) : PI X tg iter (fun σ H R => t σ H R ∨ u σ H R) := ⟨fun pins s σ H R I h => h.elim (h1.run pins s σ H R I) (h2.run pins s σ H R I)⟩
section
variable {K : PySem.W.Frag} {m : List Addr} {H : Hp}
def chkOf (x : W) (ws : List W) : Option (Nat × List W) := match x with
  | .ref n => some (n, ws)
  | _ => none
theorem list_stay {s s' : Sto} {m' : List Addr} {H' : Hp} {x : W} {a : Addr} {ws : List W} (r : R K m H x (.ref a)) (h : lstOf x s = some ws) (A : Adv m H m' H') (S : SR K m' H' s') (c : okc (chkOf x ws) s') : ∃ vs, SqL K H' a vs ∧ RL K m' H' ws vs := by
  cases r with
  | tup => cases h
  | fn => cases h
  | xob => cases h
  | lro h1 h2 => cases h; exact ⟨_, (h1.ext A.ext).sq, h2.adv A⟩
  | @ref n a h1 =>
    obtain ⟨a', h2, vs, h3, h4⟩ := S.at (show s'[n]? = some (.lst ws) from c)
    rw [A.get h1] at h2; cases h2
    exact ⟨vs, SqL.of h3, h4⟩
theorem tup_stay {m' : List Addr} {H' : Hp} {a : Addr} {ws : List W} (r : R K m H (.tup ws) (.ref a)) (A : Adv m H m' H') : ∃ vs, SqT K H' a vs ∧ RL K m' H' ws vs := by
  cases r with
  | tup h1 h2 => exact ⟨_, (h1.ext A.ext).sq, h2.adv A⟩
theorem it_list {s : Sto} {x : W} {a : Addr} {ws : List W} (r : R K m H x (.ref a)) (h : lstOf x s = some ws) : ItOk K (Itl K a) m H ws (chkOf x ws) where
  go := fun m' H' s' i w A S c hi => by
    obtain ⟨vs, q, rl⟩ := list_stay r h A S c
    obtain ⟨v, hv, rv⟩ := rl.at hi
    refine ⟨⟨vs, v, q, hv⟩, fun v' H2 y => ?_⟩
    obtain ⟨rfl, y⟩ := y
    have e := y vs q
    rw [hv] at e; cases e
    exact ⟨m', Adv.refl _ _, S, rv⟩
  stop := fun m' H' s' A S c => by
    obtain ⟨vs, q, rl⟩ := list_stay r h A S c
    exact ⟨vs, q, by rw [rl.len]; exact Nat.le_refl _⟩
theorem it_tup {a : Addr} {ws : List W} (r : R K m H (.tup ws) (.ref a)) : ItOk K (Itt K a) m H ws none where
  go := fun m' H' s' i w A S c hi => by
    obtain ⟨vs, q, rl⟩ := tup_stay r A
    obtain ⟨v, hv, rv⟩ := rl.at hi
    refine ⟨⟨vs, v, q, hv⟩, fun v' H2 y => ?_⟩
    obtain ⟨rfl, y⟩ := y
    have e := y vs q
    rw [hv] at e; cases e
    exact ⟨m', Adv.refl _ _, S, rv⟩
  stop := fun m' H' s' A S c => by
    obtain ⟨vs, q, rl⟩ := tup_stay r A
    exact ⟨vs, q, by rw [rl.len]; exact Nat.le_refl _⟩
theorem it_rng {lo : Int} {n : Nat} : ItOk K (Itr lo n) m H ((List.range n).map fun (i : Nat) => W.int (lo + (i : Int))) none where
  go := fun m' H' s' i w A S c hi => by
    rw [List.getElem?_map] at hi
    cases e : (List.range n)[i]? with
    | none => rw [e] at hi; cases hi
    | some j =>
      rw [e] at hi
      cases hi
      obtain ⟨h1, h2⟩ := List.getElem?_eq_some_iff.mp e
      rw [List.getElem_range] at h2
      subst h2
      rw [List.length_range] at h1
      refine ⟨h1, fun v' H2 y => ?_⟩
      obtain ⟨rfl, rfl⟩ := y
      exact ⟨m', Adv.refl _ _, S, .int _⟩
  stop := fun m' H' s' A S c => by
    show n ≤ _
    rw [List.length_map, List.length_range]
    exact Nat.le_refl _
def enumW (ws : List W) : List W := ws.zipIdx.map fun p => W.tup [.int (p.2 : Int), p.1]
def zipW (ws us : List W) : List W := List.zipWith (fun a b => W.tup [a, b]) ws us
def signsW (z : Str) : List W := z.cps.toList.map fun c => W.str ⟨#[c]⟩
theorem it_str {z : Str} : ItOk K (Its z) m H (signsW z) none where
  go := fun m' H' s' i w A S c hi => by
    unfold signsW at hi
    rw [List.getElem?_map] at hi
    cases e : z.cps.toList[i]? with
    | none => rw [e] at hi; cases hi
    | some cc =>
      rw [e] at hi
      cases hi
      have hl : i < z.cps.size := by simpa using (List.getElem?_eq_some_iff.mp e).1
      refine ⟨hl, fun v' H2 y => ?_⟩
      obtain ⟨rfl, c2, hc2, rfl⟩ := y
      have e2 : z.cps[i]? = some cc := by simpa using e
      rw [e2] at hc2; cases hc2
      exact ⟨m', Adv.refl _ _, S, .str _⟩
  stop := fun m' H' s' A S c => by
    show _ ≤ _
    unfold signsW
    rw [List.length_map]
    simp
end
def iSeq (f : FE) : FI := fun ρ s => bd (f ρ s) fun x s1 => match x with
  | .tup ws => some ((ws, none), s1)
  | .str z => some ((signsW z, none), s1)
  | x => match lstOf x s1 with
    | some ws => some ((ws, chkOf x ws), s1)
    | none => none
def iEnu (f : FE) : FI := fun ρ s => bd (f ρ s) fun x s1 => match x with
  | .tup ws => some ((enumW ws, none), s1)
  | x => match lstOf x s1 with
    | some ws => some ((enumW ws, chkOf x ws), s1)
    | none => none
def iRev (f : FE) : FI := fun ρ s => bd (f ρ s) fun x s1 => match x with
  | .tup ws => some ((ws.reverse, none), s1)
  | x => match lstOf x s1 with
    | some ws => some ((ws.reverse, chkOf x ws), s1)
    | none => none
open Classical in
noncomputable def iZip (f g : FE) : FI := fun ρ s => bd (f ρ s) fun x s1 => bd (g ρ s1) fun y s2 => match x, y with
  | .tup ws, .tup us => some ((zipW ws us, none), s2)
  | x, y => match lstOf x s2, lstOf y s2 with
    | some ws, some us => if chkOf x ws = none ∨ chkOf y us = none ∨ chkOf x ws = chkOf y us then some ((zipW ws us, if (chkOf x ws).isSome then chkOf x ws else chkOf y us), s2) else none
    | _, _ => none
def iRng1 (f : FE) : FI := fun ρ s => bd (f ρ s) fun x s1 => match x with
  | .int j => if -(2 ^ 62) ≤ j ∧ j < 2 ^ 62 then some (((List.range j.toNat).map fun (i : Nat) => W.int (0 + (i : Int)), none), s1) else none
  | _ => none
def iRng2 (f g : FE) : FI := fun ρ s => bd (f ρ s) fun x s1 => bd (g ρ s1) fun y s2 => match x, y with
  | .int i, .int j => if -(2 ^ 62) ≤ i ∧ i < 2 ^ 62 ∧ -(2 ^ 62) ≤ j ∧ j < 2 ^ 62 then some (((List.range (j - i).toNat).map fun (k : Nat) => W.int (i + (k : Int)), none), s2) else none
  | _, _ => none
section
variable {X : Cx} {tg e e2 : Expr} {pos : Pos}
theorem seq_tI {f : FE} : ∀ σ H R, tI X.K (iSeq f) σ H R → (iList X.K (tF X.K f) σ H R ∨ iTup X.K (tF X.K f) σ H R) ∨ iStr (tF X.K f) σ H R := by
  rintro σ H R' ⟨m, ρ, s, er, sr, xs, c, s', e, q⟩
  obtain ⟨x, s1, e1, e⟩ := bd_inv e
  have lst : ∀ {ws}, lstOf x s1 = some ws → some ((ws, chkOf x ws), s1) = some ((xs, c), s') → iList X.K (tF X.K f) σ H R' := fun {ws} hl e => by
    cases e
    refine ⟨m, ρ, s, er, sr, x, _, e1, fun m1 H1 v A1 S1 r1 => ?_⟩
    obtain ⟨p, vs, rfl, h1, h2⟩ := lst_of S1 r1 hl
    exact ⟨p, rfl, ⟨vs, h1⟩, q m1 H1 _ A1 S1 (it_list r1 hl)⟩
  cases x with
  | tup ws =>
    cases e
    refine .inl (.inr ⟨m, ρ, s, er, sr, _, _, e1, fun m1 H1 v A1 S1 r1 => ?_⟩)
    have r1' := r1
    cases r1 with
    | tup h1 h2 => exact ⟨_, rfl, ⟨_, h1.sq⟩, q m1 H1 _ A1 S1 (it_tup r1')⟩
  | str z =>
    cases e
    refine .inr ⟨m, ρ, s, er, sr, _, _, e1, fun m1 H1 v A1 S1 r1 => ?_⟩
    cases r1
    exact ⟨z, rfl, q m1 H1 _ A1 S1 it_str⟩
  | ref n =>
    cases hl : lstOf (.ref n) s1 with
    | none => simp only [hl] at e; cases e
    | some ws => simp only [hl] at e; exact .inl (.inl (lst hl e))
  | lro ws' =>
    cases hl : lstOf (.lro ws') s1 with
    | none => simp only [hl] at e; cases e
    | some ws => simp only [hl] at e; exact .inl (.inl (lst hl e))
  | _ => cases e
theorem mi_seq {f : FE} (h : PE X e (tF X.K f)) : PI X tg e (tI X.K (iSeq f)) := (((pi_list h).or (pi_tup h)).or (pi_str h)).imp seq_tI
theorem mi_rng1 {p : Pos} {f : FE} (hg : Gl X "range") (hm : X.mg "range" = none) (h : PE X e (tF X.K f)) (hs1 : starEach [e] X.env = (false, eval e X.env) :: starEach [] X.env := by rfl) (hs : starEach [e] X.env = [(false, eval e X.env)] := by rfl) :
    PI X tg (.Call (.Name "range" p) [e] [] pos) (tI X.K (iRng1 f)) :=
  (pi_range1 hg hm (ma_cons h ma_nil hs1) hs).imp fun σ H R' ⟨m, ρ, s, er, sr, xs, c, s', e, q⟩ => by
    obtain ⟨x, s1, e1, e⟩ := bd_inv e
    have ea : aCons f aNil ρ s = some ([x], s1) := by unfold aCons; rw [e1]; rfl
    refine ⟨m, ρ, s, er, sr, [x], s1, ea, fun m1 H1 v A1 S1 r1 => ?_⟩
    cases r1 with
    | cons r1 r2 =>
      cases r2
      cases r1 with
      | int j =>
        by_cases hj : -(2 ^ 62) ≤ j ∧ j < 2 ^ 62
        · simp only [hj, and_self, if_true] at e
          cases e
          exact ⟨j, rfl, hj.1, hj.2, q m1 H1 _ A1 S1 it_rng⟩
        · simp only [hj, if_false] at e
          cases e
      | _ => cases e
open Classical in
end
end Mir

set_option Elab.async false
set_option linter.all false
set_option maxRecDepth 100000
namespace Mir
open PySem PySem.Spec PyProof.Rows L2
section
variable {K : PySem.W.Frag}
def keyW : W → Option Key
  | .int i => some (.inl i)
  | .str x => some (.inr x)
  | _ => none
theorem key_of {m : List Addr} {H : Hp} {w : W} {v : V} {k : Key} (r : R K m H w v) (h : keyW w = some k) : v = kV k := by
  cases r <;> first | (cases h; rfl) | cases h
def dcOf (x : W) (s : Sto) : Option (Nat × List (Key × W)) := match x with
  | .ref n => match s[n]? with
    | some (.dct kvs) => some (n, kvs)
    | _ => none
  | _ => none
theorem dc_of {m : List Addr} {H : Hp} {s : Sto} {x : W} {v : V} {n : Nat} {kvs : List (Key × W)} (S : SR K m H s) (r : R K m H x v) (h : dcOf x s = some (n, kvs)) : ∃ a vs, v = .ref a ∧ m[n]? = some a ∧ s[n]? = some (.dct kvs) ∧ H a = some (.dK vs) ∧ RK K m H kvs vs := by
  cases r with
  | @ref n' a h1 =>
    cases e : s[n']? with
    | none => simp only [dcOf, e] at h; cases h
    | some o =>
      cases o with
      | lst _ => simp only [dcOf, e] at h; cases h
      | lam _ _ => simp only [dcOf, e] at h; cases h
      | tab _ _ => simp only [dcOf, e] at h; cases h
      | dead => simp only [dcOf, e] at h; cases h
      | frd _ => simp only [dcOf, e] at h; cases h
      | frt _ => simp only [dcOf, e] at h; cases h
      | ins _ _ => simp only [dcOf, e] at h; cases h
      | dtt _ => simp only [dcOf, e] at h; cases h
      | dct kv' =>
        simp only [dcOf, e] at h
        cases h
        obtain ⟨a', h2, vs, h3, h4⟩ := S.at e
        rw [h1] at h2
        cases h2
        exact ⟨_, _, rfl, h1, e, h3, h4⟩
  | _ => cases h
def look (kvs : List (Key × W)) (k : Key) : Option W := (kvs.find? fun kv => decide (kv.1 = k)).map (·.2)
def put (kvs : List (Key × W)) (k : Key) (w : W) : List (Key × W) := if kvs.any (fun kv => decide (kv.1 = k)) then kvs.map fun kv => if kv.1 = k then (kv.1, w) else kv else kvs ++ [(k, w)]
theorem RK.look {m : List Addr} {H : Hp} {k : Key} : ∀ {kvs : List (Key × W)} {vs : List (Key × V)}, RK K m H kvs vs → (∀ w, look kvs k = some w → ∃ v, valV vs k = some v ∧ R K m H w v) ∧ (look kvs k = none → valV vs k = none)
  | [], vs, r => by cases r; exact ⟨fun w h => (by cases h), fun _ => rfl⟩
  | (k', w') :: kvs, vs, r => by
    cases r with
    | @cons _ _ v' _ vs h1 h2 =>
      obtain ⟨q1, q2⟩ := RK.look (k := k) h2
      by_cases e : k' = k
      · subst e
        refine ⟨fun w h => ?_, fun h => ?_⟩
        · have h : some w' = some w := by simpa [Mir.look, List.find?_cons] using h
          cases h
          exact ⟨v', valV_pos rfl, h1⟩
        · exfalso
          simp [Mir.look, List.find?_cons] at h
      · have e1 : Mir.look ((k', w') :: kvs) k = Mir.look kvs k := by simp [Mir.look, List.find?_cons, e]
        have e2 : valV ((k', v') :: vs) k = valV vs k := valV_neg e
        rw [e1, e2]
        exact ⟨q1, q2⟩
theorem RK.any {m : List Addr} {H : Hp} {k : Key} : ∀ {kvs : List (Key × W)} {vs : List (Key × V)}, RK K m H kvs vs → (vs.any fun kv => decide (kv.1 = k)) = kvs.any fun kv => decide (kv.1 = k)
  | [], vs, r => by cases r; rfl
  | (k', w') :: kvs, vs, r => by
    cases r with
    | cons h1 h2 => rw [List.any_cons, List.any_cons, RK.any h2]
theorem RK.map {m : List Addr} {H : Hp} {k : Key} {w : W} {v : V} (rw_ : R K m H w v) : ∀ {kvs : List (Key × W)} {vs : List (Key × V)}, RK K m H kvs vs → RK K m H (kvs.map fun kv => if kv.1 = k then (kv.1, w) else kv) (vs.map fun kv => if kv.1 = k then (kv.1, v) else kv)
  | [], vs, r => by cases r; exact .nil
  | (k', w') :: kvs, vs, r => by
    cases r with
    | cons h1 h2 =>
      rw [List.map_cons, List.map_cons]
      by_cases e : k' = k
      · simp only [e, if_true]
        exact .cons rw_ (RK.map rw_ h2)
      · simp only [e, if_false]
        exact .cons h1 (RK.map rw_ h2)
theorem RK.app {m : List Addr} {H : Hp} : ∀ {a b : List (Key × W)} {c d : List (Key × V)}, RK K m H a c → RK K m H b d → RK K m H (a ++ b) (c ++ d)
  | [], _, _, _, r, g => by cases r; exact g
  | _ :: _, _, _, _, r, g => by
    cases r with
    | cons h1 h2 => exact .cons h1 (RK.app h2 g)
theorem RK.put {m : List Addr} {H : Hp} {k : Key} {w : W} {v : V} {kvs : List (Key × W)} {vs : List (Key × V)} (r : RK K m H kvs vs) (rw_ : R K m H w v) : RK K m H (put kvs k w) (putK vs k v) := by
  unfold Mir.put putK
  rw [r.any]
  split
  · exact r.map rw_
  · exact r.app (.cons rw_ .nil)
end
section
variable {X : Cx} {o i e f : Expr} {pos : Pos}
def eDget (d y : FE) : FE := fun ρ s => bd (d ρ s) fun x s1 => bd (y ρ s1) fun z s2 => match dcOf x s2, keyW z with
  | some (_, kvs), some k => match look kvs k with
    | some w => some (w, s2)
    | none => none
  | _, _ => none
theorem m_dget {fd fy : FE} (hu : X.A.units + 1 < cLine) (ho : PE X o (tF X.K fd)) (hi : PE X i (tF X.K fy)) (hs : NoSl i) : PE X (.Subscript o i pos) (tF X.K (eDget fd fy)) :=
  (pe_dget hu ho hi hs).imp fun σ H Q ⟨m, ρ, s, er, sr, w, s', e, q⟩ => by
    obtain ⟨x, s1, e1, e⟩ := bd_inv e
    obtain ⟨z, s2, e2, e⟩ := bd_inv e
    refine ⟨m, ρ, s, er, sr, x, s1, e1, fun m1 H1 v A1 S1 r1 => ⟨m1, ρ, s1, er.adv A1, S1, z, s2, e2, fun m2 H2 u A2 S2 r2 => ?_⟩⟩
    cases ed : dcOf x s2 with
    | none => simp only [ed] at e; cases e
    | some p =>
      obtain ⟨n, kvs⟩ := p
      cases ek : keyW z with
      | none => simp only [ed, ek] at e; cases e
      | some k =>
        simp only [ed, ek] at e
        cases el : look kvs k with
        | none => simp only [el] at e; cases e
        | some w' =>
          simp only [el] at e
          cases e
          obtain ⟨a, vs, rfl, hm, hs2, hd, rk⟩ := dc_of S2 (r1.adv A2) ed
          obtain ⟨v', hv, rv⟩ := (rk.look (k := k)).1 _ el
          have hy := key_of r2 ek
          subst hy
          refine ⟨a, v', rfl, ?_, q m2 H2 v' (A1.trans A2) S2 rv⟩
          have g := DGet.k (k := k) hd
          rw [hv] at g
          exact g
def eDin (neg : Bool) (y d : FE) : FE := fun ρ s => bd (y ρ s) fun z s1 => bd (d ρ s1) fun x s2 => match dcOf x s2, keyW z with
  | some (_, kvs), some k => some (.bl (if neg then !(look kvs k).isSome else (look kvs k).isSome), s2)
  | _, _ => none
def sDput (d y f : FE) : FS := fun ρ s => bd (f ρ s) fun w s1 => bd (d ρ s1) fun x s2 => bd (y ρ s2) fun z s3 => match dcOf x s3, keyW z with
  | some (n, kvs), some k => if kvs.length ≤ 100000 then some (.nx ρ, s3.set n (.dct (put kvs k w))) else none
  | _, _ => none
theorem ms_dput {fd fy fv : FE} {v : Expr} {pos' : Pos} (hu : X.A.units + 1 < cLine) (ho : PE X o (tF X.K fd)) (hi : PE X i (tF X.K fy)) (hv : PE X v (tF X.K fv)) (hs : swapsWith v (some (.Subscript o i pos')) pos.line X.env = pure false := by rfl) :
    PS X (.Assign [.Subscript o i pos'] v pos) (tS X.K (sDput fd fy fv)) :=
  (ps_dput hu ho hi hv hs).imp fun D σ H ⟨m, ρ, s, er, sr, oo, s', e, q⟩ => by
    obtain ⟨w, s1, e1, e⟩ := bd_inv e
    obtain ⟨x, s2, e2, e⟩ := bd_inv e
    obtain ⟨z, s3, e3, e⟩ := bd_inv e
    refine ⟨m, ρ, s, er, sr, w, s1, e1, fun m1 H1 v A1 S1 r1 => ⟨m1, ρ, s1, er.adv A1, S1, x, s2, e2, fun m2 H2 u A2 S2 r2 => ⟨m2, ρ, s2, (er.adv A1).adv A2, S2, z, s3, e3, fun m3 H3 y A3 S3 r3 => ?_⟩⟩⟩
    cases ed : dcOf x s3 with
    | none => simp only [ed] at e; cases e
    | some p =>
      obtain ⟨n, kvs⟩ := p
      cases ek : keyW z with
      | none => simp only [ed, ek] at e; cases e
      | some k =>
        simp only [ed, ek] at e
        split at e
        · rename_i hl
          cases e
          obtain ⟨a, vs, rfl, hm, hs2, hd, rk⟩ := dc_of S3 (r2.adv A3) ed
          have hy := key_of r3 ek
          subst hy
          refine ⟨a, _, rfl, DPut.k (k := k) hd (szt (by rw [rk.len]; exact hl)), ?_⟩
          have A4 : Adv m3 H3 m3 (upd H3 a (.dK (putK vs k v))) := Adv.write S3 hm ⟨_, hd, .inr ⟨_, rfl⟩⟩
          exact q m3 _ σ (((A1.trans A2).trans A3).trans A4) (S3.write hm ⟨_, hd, .inr ⟨_, rfl⟩⟩ ⟨_, upd_same, (rk.adv A4).put (((r1.adv A2).adv A3).adv A4)⟩) ((((er.adv A1).adv A2).adv A3).adv A4)
        · cases e
def eDget2 (d y f : FE) : FE := fun ρ s => bd (d ρ s) fun x s1 => if (dcOf x s1).isSome = true then bd (y ρ s1) fun z s2 => bd (f ρ s2) fun w s3 => match dcOf x s3, keyW z with
  | some (_, kvs), some k => some ((look kvs k).getD w, s3)
  | _, _ => none
  else none
def Cst (K : PySem.W.Frag) (mg : Str → Option Value) (x : Str) (w : W) : Prop := ∃ v u, mg x = some u ∧ RelV v u ∧ ∀ m H, R K m H w v
theorem m_glob {x : Str} {w : W} {p : Pos} (h : Cst X.K X.mg x w) (hg : Gl X x) (hd : (x == ("__debug__" : Str)) = false := by decide) : PE X (.Name x p) (tF X.K (eC w)) := by
  obtain ⟨v, u, h1, h2, h3⟩ := h
  exact m_c (pe_glob hg h1 h2 hd) h3
def gStr (f : Str → List W → Sto → Rz W) : W → List W → Sto → Rz W := fun x ws s => match x with
  | .str z => f z ws s
  | _ => none
def isS (x : W) (_ : Sto) : Bool := match x with
  | .str _ => true
  | _ => false
theorem isS_ty {K : PySem.W.Frag} {m : List Addr} {H : Hp} {s : Sto} {x : W} {v : V} (S : SR K m H s) (r : R K m H x v) (h : isS x s = true) : tyV K "str" v H := by
  cases r with
  | str z => rfl
  | _ => cases h
def gUpper := gStr fun z ws s => match ws with
  | [] => if z.length ≤ 5592405 then some (.str (Txt.upper z), s) else none
  | _ => none
theorem f_upper {K : PySem.W.Frag} : MtF K (fun x xs H Q => ∃ a, x = .str a ∧ xs = [] ∧ a.length ≤ 5592405 ∧ Q (.str (Txt.upper a)) H) gUpper := by
  intro m H s x v ws vs Q S rx r h
  cases rx with
  | str z =>
    cases r with
    | cons _ _ => exact nopeE h
    | nil =>
      by_cases hz : z.length ≤ 5592405
      · simp only [gUpper, gStr, hz, if_true] at h
        exact ⟨z, rfl, rfl, hz, h.val S _ (.str _)⟩
      · exact nopeE' h (by simp only [gUpper, gStr, hz, if_false])
  | _ => exact nopeE h
def gJoin := gStr fun z ws s => match ws with
  | [x] => match seqOf x s with
    | some xs => match strsOf xs with
      | some ys => if (ys.map (·.length)).sum + ys.length * z.length ≤ 16777216 then some (.str (Txt.join z ys), s) else none
      | none => none
    | none => none
  | _ => none
theorem f_join {K : PySem.W.Frag} : MtF K (fun x xs H Q => ∃ a p, ∃ ys : List Str, x = .str a ∧ xs = [.ref p] ∧ (SqL K H p (ys.map V.str) ∨ SqT K H p (ys.map V.str)) ∧ (ys.map (·.length)).sum + ys.length * a.length ≤ 16777216 ∧ Q (.str (Txt.join a ys)) H) gJoin := by
  intro m H s x v ws vs Q S rx r h
  cases rx with
  | str z =>
    cases r with
    | nil => exact nopeE h
    | @cons y _ _ _ r1 r2 =>
      cases r2 with
      | cons _ _ => exact nopeE h
      | nil =>
        cases es : seqOf y s with
        | none => exact nopeE' h (by simp only [gJoin, gStr, es])
        | some xs =>
          cases ey : strsOf xs with
          | none => exact nopeE' h (by simp only [gJoin, gStr, es, ey])
          | some ys =>
            by_cases hz : (ys.map (·.length)).sum + ys.length * z.length ≤ 16777216
            · simp only [gJoin, gStr, es, ey, hz, if_true] at h
              obtain ⟨p, us, rfl, hs, rl⟩ := seq_of S r1 es
              rw [strs_of rl ey] at hs
              exact ⟨z, p, ys, rfl, rfl, hs.symm, hz, h.val S _ (.str _)⟩
            · exact nopeE' h (by simp only [gJoin, gStr, es, ey, hz, if_false])
  | _ => exact nopeE h
theorem rl_strs {K : PySem.W.Frag} {m : List Addr} {H : Hp} : ∀ ys : List Str, RL K m H (ys.map W.str) (ys.map V.str)
  | [] => .nil
  | y :: ys => .cons (.str y) (rl_strs ys)
def gSplit := gStr fun z ws s => match ws with
  | [.str b] => if (b.length == 0) = false ∧ z.length + 2 ≤ sizeLine then some (.ref s.length, s ++ [.lst ((Txt.split z b).map W.str)]) else none
  | [] => if z.length + 2 ≤ sizeLine then some (.ref s.length, s ++ [.lst ((Txt.words z).map W.str)]) else none
  | _ => none
theorem f_split {K : PySem.W.Frag} : MtF K (fun x xs H Q => (∃ a b, x = .str a ∧ xs = [.str b] ∧ (b.length == 0) = false ∧ a.length + 2 ≤ sizeLine ∧ rNewStrs (Txt.split a b) H Q) ∨ (∃ a, x = .str a ∧ xs = [] ∧ a.length + 2 ≤ sizeLine ∧ rNewStrs (Txt.words a) H Q)) gSplit := by
  intro m H s x v ws vs Q S rx r h
  cases rx with
  | str z =>
    cases r with
    | nil =>
      by_cases hz : z.length + 2 ≤ sizeLine
      · simp only [gSplit, gStr, hz, if_true] at h
        obtain ⟨w, s', e, q⟩ := h
        cases e
        exact .inr ⟨z, rfl, rfl, hz, fun p hp => new_lst S (rl_strs _) hp q⟩
      · exact nopeE' h (by simp only [gSplit, gStr, hz, if_false])
    | @cons y _ _ _ r1 r2 =>
      cases r2 with
      | cons _ _ => cases r1 <;> exact nopeE h
      | nil =>
        cases r1 with
        | str b =>
          by_cases hz : (b.length == 0) = false ∧ z.length + 2 ≤ sizeLine
          · simp only [gSplit, gStr, hz, and_self, if_true] at h
            obtain ⟨w, s', e, q⟩ := h
            cases e
            exact .inl ⟨z, b, rfl, rfl, hz.1, hz.2, fun p hp => new_lst S (rl_strs _) hp q⟩
          · exact nopeE' h (by simp only [gSplit, gStr, hz, if_false])
        | _ => exact nopeE h
  | _ => exact nopeE h
def gSlA : W → Option Int → Option Int → Sto → Rz W := fun x lo hi s => match x with
  | .str z => if z.length ≤ sizeLine then some (.str (cutS z lo hi), s) else none
  | .tup ws => some (.tup ((ws.drop (HT.sIx ws.length 0 lo)).take (HT.sIx ws.length ws.length hi - HT.sIx ws.length 0 lo)), s)
  | x => match lstOf x s with
    | some ws => some (.ref s.length, s ++ [.lst ((ws.drop (HT.sIx ws.length 0 lo)).take (HT.sIx ws.length ws.length hi - HT.sIx ws.length 0 lo))])
    | none => none
def rSlAny (K : PySem.W.Frag) : V → Option Int → Option Int → Hp → VK → Prop := fun x lo hi H Q => rSlS x lo hi H Q ∨ rSlA K x lo hi H Q ∨ rSlL K x lo hi H Q
theorem sl_any : SlR X (rSlAny X.K) := sl_str.or (sl_tupA.or sl_list)
theorem f_sl {K : PySem.W.Frag} : SlF K (rSlAny K) gSlA := by
  intro m H s x v lo hi Q S rx h
  have lst : ∀ {ws}, lstOf x s = some ws → wE K m H (some (.ref s.length, s ++ [.lst ((ws.drop (HT.sIx ws.length 0 lo)).take (HT.sIx ws.length ws.length hi - HT.sIx ws.length 0 lo))])) Q → rSlAny K v lo hi H Q := fun {ws} hl h => by
    obtain ⟨p, vs, rfl, h1, h2⟩ := lst_of S rx hl
    obtain ⟨w, s', e, q⟩ := h
    cases e
    exact .inr (.inr ⟨p, vs, rfl, h1, fun l hl => new_lst S (h2.cut lo hi) hl q⟩)
  cases rx with
  | str z =>
    by_cases hz : z.length ≤ sizeLine
    · simp only [gSlA, hz, if_true] at h
      exact .inl ⟨z, rfl, hz, h.val S _ (.str _)⟩
    · exact nopeE' h (by simp only [gSlA, hz, if_false])
  | @tup p vs ws h1 h2 =>
    have rc := h2.cut lo hi
    refine .inr (.inl ⟨p, vs, rfl, h1.sq, fun hw => ?_, fun hw q hq => ?_⟩)
    · refine h.val S _ (.tup h1 ?_)
      unfold cutV at rc
      rw [hw.1, hw.2, List.drop_zero, Nat.sub_zero, List.take_length] at rc
      exact rc
    · obtain ⟨w, s', e, q⟩ := h
      cases e
      exact new_tup S rc hq q
  | @ref n a h1 =>
    cases hl : lstOf (.ref n) s with
    | none => exact nopeE' h (by simp only [gSlA, hl])
    | some ws =>
      have e : gSlA (.ref n) lo hi s = some (.ref s.length, s ++ [.lst ((ws.drop (HT.sIx ws.length 0 lo)).take (HT.sIx ws.length ws.length hi - HT.sIx ws.length 0 lo))]) := by simp only [gSlA, hl]
      rw [e] at h
      exact lst hl h
  | @lro p vs ws h1 h2 =>
    have e : gSlA (.lro ws) lo hi s = some (.ref s.length, s ++ [.lst ((ws.drop (HT.sIx ws.length 0 lo)).take (HT.sIx ws.length ws.length hi - HT.sIx ws.length 0 lo))]) := by simp only [gSlA, lstOf]
    rw [e] at h
    exact lst rfl h
  | _ => exact nopeE h
def gRevL : W → Sto → Rz W := fun x s => match lstOf x s with
  | some ws => some (.ref s.length, s ++ [.lst ws.reverse])
  | none => none
def gRevT : W → Sto → Rz W := fun x s => match x with
  | .tup ws => some (.tup ws.reverse, s)
  | _ => none
def eFmt (f : FE) : FE := fun ρ s => bd (f ρ s) fun x s1 => match x with
  | .str y => if y.length ≤ sizeLine then some (.str y, s1) else none
  | .int i => if i.natAbs.log2 < 1920 then some (.str (toString i), s1) else none
  | _ => none
def joinF : List FE → Str → EnvM → Sto → Rz Str
  | [], acc, _, s => some (acc, s)
  | f :: fs, acc, ρ, s => bd (f ρ s) fun x s1 => match x with
    | .str y => if (acc ++ y).length ≤ sizeLine then joinF fs (acc ++ y) ρ s1 else none
    | _ => none
def eJoin (fs : List FE) : FE := fun ρ s => bd (joinF fs Str.empty ρ s) fun y s1 => some (.str y, s1)
end
end Mir

set_option Elab.async false
set_option linter.all false
set_option maxRecDepth 100000
namespace Mir
open PySem PySem.Spec PyProof.Rows L2
section
variable {K : PySem.W.Frag}
def tyW (x : W) (s : Sto) : Option String := match x with
  | .non => some "NoneType"
  | .bl _ => some "bool"
  | .int _ => some "int"
  | .str _ => some "str"
  | .tup _ => some "tuple"
  | .lro _ => some "list"
  | .ref n => match s[n]? with
    | some (.lst _) => some "list"
    | some (.dct _) => some "dict"
    | _ => none
  | .fn _ => none
  | .xob _ => none
theorem tyW_of {m : List Addr} {H : Hp} {s : Sto} {x : W} {v : V} {t : String} (S : SR K m H s) (r : R K m H x v) (h : tyW x s = some t) : TyX K H v (.type t) := by
  cases r with
  | non => cases h; exact .base .non
  | fn => cases h
  | xob => cases h
  | bl b => cases h; exact .base (.bl b)
  | int i => cases h; exact .base (.int i)
  | str y => cases h; exact .base (.str y)
  | tup h1 h2 =>
    cases h
    rcases h1 with h1 | ⟨o, its, n, l, c, _⟩
    · exact .base (.tup h1)
    · exact .kTuple l c
  | lro h1 h2 =>
    cases h
    rcases h1 with ⟨o, h1⟩ | ⟨o, its, n, l, c, _⟩
    · exact .base (.frz h1)
    · exact .kList l c
  | @ref n a h1 =>
    cases e : s[n]? with
    | none => simp only [tyW, e] at h; cases h
    | some o =>
      obtain ⟨a', h2, h3⟩ := S.at e
      rw [h1] at h2; cases h2
      cases o with
      | lst ws =>
        simp only [tyW, e] at h
        cases h
        obtain ⟨vs, h3, _⟩ := h3
        exact .base (.lst h3)
      | dtt _ => simp only [tyW, e] at h; cases h
      | dct ws =>
        simp only [tyW, e] at h
        cases h
        obtain ⟨vs, h3, _⟩ := h3
        exact .base (.dK h3)
      | _ => simp only [tyW, e] at h; cases h
def isiT (a b : String) : Bool := (a == b) || (a == "bool" && b == "int")
def eIsi (T : String) (f : FE) : FE := fun ρ s => bd (f ρ s) fun x s1 => match tyW x s1 with
  | some t => some (.bl (isiT t T), s1)
  | none => none

def tyNames : List String := ["NoneType", "bool", "int", "str", "tuple", "list", "dict"]
theorem tyW_in {x : W} {s : Sto} {t : String} (h : tyW x s = some t) : t ∈ tyNames := by
  cases x with
  | ref n =>
    simp only [tyW] at h
    split at h <;> (cases h <;> decide)
  | fn => cases h
  | xob => cases h
  | _ => cases h; decide
theorem kit_tuple : ∀ t ∈ tyNames, kitB t "tuple" = some (isiT t "tuple") := by decide +kernel
end
section
variable {X : Cx} {a b c e e2 : Expr} {pos : Pos}
theorem m_isi {f : FE} {T : String} {p p2 : Pos} {x : Str} (hk : ∀ t ∈ tyNames, kitB t T = some (isiT t T)) (hg : Gl X "isinstance") (hm : X.mg "isinstance" = none) (hg2 : Gl X x) (hm2 : X.mg x = none) (hb : bootBuiltins x = some (.type T)) (he : PE X e (tF X.K f)) (hn : x ≠ "__name__" := by decide) (hd : (x == ("__debug__" : Str)) = false := by decide)
    (hs1 : starEach [e, .Name x p2] X.env = (false, eval e X.env) :: starEach [.Name x p2] X.env := by rfl) (hs2 : starEach [.Name x p2] X.env = (false, eval (.Name x p2) X.env) :: starEach [] X.env := by rfl) (hpl : (backTo pos (starEach [.Name x p2] X.env)).any (·.1) = false := by rfl) :
    PE X (.Call (.Name "isinstance" p) [e, .Name x p2] [] pos) (tF X.K (eIsi T f)) :=
  (pe_callB call_isi hg hm PyProof.Rows.boot_isinstance (pa_cons he (pa_cons (pe_bltn (v := .ty T) hg2 hm2 hb rfl hn hd) pa_nil hs2) hs1) (by decide) (by decide) hs1 hpl).imp fun σ H Q ⟨m, ρ, s, er, sr, w, s', e, q⟩ => by
    obtain ⟨x, s1, e1, e⟩ := bd_inv e
    cases ht : tyW x s1 with
    | none => simp only [ht] at e; cases e
    | some t =>
      simp only [ht] at e
      cases e
      exact ⟨m, ρ, s, er, sr, x, _, e1, fun m1 H1 v A1 S1 r1 => ⟨v, .ty T, .type t, .type T, _, rfl, .ty T, tyW_of S1 r1 ht, kit_ty (hk t (tyW_in ht)), q m1 H1 _ A1 S1 (.bl _)⟩⟩
def eChain (g g' : W → W → Sto → Rz W) (fa fb fc : FE) : FE := fun ρ s => bd (fa ρ s) fun x s1 => bd (fb ρ s1) fun y s2 => bd (g x y s2) fun z s3 => match z with
  | .bl k => if k = true then bd (fc ρ s3) fun w s4 => g' y w s4 else some (.bl false, s3)
  | _ => none
def gTupleD : List W → Sto → Rz W := fun ws s => match ws with
  | [x] => match dcOf x s with
    | some (_, kvs) => some (.tup (kvs.map fun kv => match kv.1 with | .inl i => W.int i | .inr z => W.str z), s)
    | none => none
  | _ => none
def gMul : W → W → Sto → Rz W := fun x y s => match x, y with
  | .int i, .int j => if (-(2 ^ 64) < i ∧ i < 2 ^ 64) ∨ (-(2 ^ 64) < j ∧ j < 2 ^ 64) then some (.int (i * j), s) else none
  | .tup ws, .int k => if ws ≠ [] ∧ 2 ≤ k ∧ k ≤ 1000 ∧ ws.length ≤ 1000 then some (.tup (List.replicate k.toNat ws).flatten, s) else none
  | _, _ => none
def rMulA (K : PySem.W.Frag) : R2 := fun x y H Q => rI CMul (fun i j => .int (i * j)) x y H Q ∨ rRepT K x y H Q
theorem op_mulA : OpR X (binaryOp .Mult) (rMulA X.K) := op_mul.or op_repT
theorem f_mul {K : PySem.W.Frag} : OpF K (rMulA K) gMul := by
  intro m H s x y v u Q S rx ry h
  cases rx with
  | int i =>
    cases ry with
    | int j =>
      by_cases q : (-(2 ^ 64) < i ∧ i < 2 ^ 64) ∨ (-(2 ^ 64) < j ∧ j < 2 ^ 64)
      · simp only [gMul, q, if_true] at h
        exact .inl ⟨i, j, rfl, rfl, q, h.val S _ (.int _)⟩
      · exact nopeE' h (by simp only [gMul, q, if_false])
    | _ => exact nopeE h
  | @tup p vs ws h1 h2 =>
    cases ry with
    | int k =>
      by_cases q : ws ≠ [] ∧ 2 ≤ k ∧ k ≤ 1000 ∧ ws.length ≤ 1000
      · obtain ⟨w, s', e, qq⟩ := h
        simp only [gMul] at e
        rw [if_pos q] at e
        cases e
        refine .inr ⟨p, k, vs, rfl, rfl, h1.sq, fun e => q.1 ?_, q.2.1, q.2.2.1, by rw [h2.len]; exact q.2.2.2, fun z hz => new_tup S (h2.rep k.toNat) hz qq⟩
        subst e
        cases h2
        rfl
      · exact nopeE' h (by simp only [gMul]; rw [if_neg q])
    | _ => exact nopeE h
  | _ => cases ry <;> exact nopeE h
def sPar (i j : Nat) (f : FA) : FS := fun ρ s => bd (f ρ s) fun ws s1 => match ws with
  | [v, w] => some (.nx ((ρ.set i (some v)).set j (some w)), s1)
  | _ => none
theorem ms_par {i j : Nat} {x y : Str} {fa : FA} {px py pt : Pos} {kt k2 pt2} (hc : X.calm = true) (hN : X.N.Nodup) (hi : X.N[i]? = some x) (hj : X.N[j]? = some y) (hij : i ≠ j)
    (hx : X.env.scope.names.lookup x = some .local) (hy : X.env.scope.names.lookup y = some .local) (ha : PA X [a, b] (tA X.K fa))
    (hw : swappedStores [.Tuple [.Name x px, .Name y py] kt pt] (.Tuple [a, b] k2 pt2) X.env = pure (some [x, y]))
    (hs : swapsWithSole [.Tuple [.Name x px, .Name y py] kt pt] (.Tuple [a, b] k2 pt2) pos.line X.env = pure false := by rfl) :
    PS X (.Assign [.Tuple [.Name x px, .Name y py] kt pt] (.Tuple [a, b] k2 pt2) pos) (tS X.K (sPar i j fa)) :=
  (ps_par hc hN hi hj hij hx hy ha hw hs).imp fun D σ H ⟨m, ρ, s, er, sr, o, s', e, q⟩ => by
    obtain ⟨ws, s1, e1, e⟩ := bd_inv e
    refine ⟨m, ρ, s, er, sr, ws, s1, e1, fun m1 H1 vs A1 S1 r1 => ?_⟩
    cases r1 with
    | nil => cases e
    | cons h1 h2 =>
      cases h2 with
      | nil => cases e
      | cons h2 h3 =>
        cases h3 with
        | cons _ _ => cases e
        | nil =>
          cases e
          exact ⟨_, _, rfl, q m1 H1 _ A1 S1 (((er.adv A1).set i h1).set j h2)⟩
def gIAdd : W → W → Sto → Rz W := fun x y s => match x, y with
  | .int i, .int j => some (.int (i + j), s)
  | .str a, .str b => if a.length + b.length ≤ 100000 then some (.str (a ++ b), s) else none
  | _, _ => none
theorem ints_rl {K : PySem.W.Frag} {m : List Addr} {H : Hp} : ∀ ns : List Int, RL K m H (ns.map W.int) (ns.map V.int)
  | [] => .nil
  | n :: ns => .cons (.int n) (ints_rl ns)
theorem law_sp {K : PySem.W.Frag} {F : List W → Sto → Rz W} {H : Hp} {a : Addr} {ns : List Int} (hO : Only H) (hS : SqL K H a (ns.map V.int)) (h : ∃ s, F [.lro (ns.map W.int)] [] = some (.bl true, s)) : spF K 1 F [.ref a] H (fun v _ => v = .bl true) (fun _ _ _ => False) := by
  obtain ⟨s, e⟩ := h
  refine ⟨rfl, [], [], [.lro (ns.map W.int)], .cons (.lro ?_ (ints_rl ns)) .nil, ⟨rfl, List.nodup_nil, fun n a o h _ => by cases h⟩, .bl true, s, e, fun m' H' v _ _ r => by cases r; rfl⟩
  rcases hS with (h | h) | h
  · exfalso
    rcases hO a with q | ⟨o, xs, q⟩
    · rw [q] at h; cases h
    · rw [q] at h; cases h
  · exact .inl h
  · exact .inr h
end
end Mir
namespace Mir
open PySem L2
theorem ofString_inj {a b : String} : (Str.ofString a = Str.ofString b) ↔ a = b := by
  refine ⟨fun h => ?_, fun h => by rw [h]⟩
  have h1 : Str.ofStringByList a = Str.ofStringByList b := by rw [← Str.ofString_eq_byList]; exact h
  unfold Str.ofStringByList at h1
  injection h1 with h1
  have h2 : a.toList.map Char.toNat = b.toList.map Char.toNat := by simpa using congrArg Array.toList h1
  have inj : ∀ l m : List Char, l.map Char.toNat = m.map Char.toNat → l = m := by
    intro l
    induction l with
    | nil => intro m e; cases m with | nil => rfl | cons _ _ => cases e
    | cons x l ih =>
      intro m e
      cases m with
      | nil => cases e
      | cons y m =>
        injection e with e1 e2
        rw [ih m e2, Char.toNat_inj.mp e1]
  have h3 : a.toList = b.toList := inj _ _ h2
  exact String.toList_inj.mp h3
theorem hu65 {A : Around} {k : Nat} (hr : Room k A) : A.units + 65 < cLine := by
  have := hr.un
  omega
end Mir
namespace Mir
open PySem PySem.Spec PyProof.Rows L2
theorem cst_tup {K : PySem.W.Frag} {m : List Addr} {H : Hp} {a : Addr} {od : Option Addr} {its : Array Value} {n : Nat} {sl : Array (Option Value)} {vs : List V} {ws : List W} (h : K.lookup a = some ⟨.type "tuple", od, .seq its n, sl⟩) (hz : its.size ≤ 100000) (hv : Vals vs its.toList) (r : RL K m H ws vs) : R K m H (.tup ws) (.ref a) :=
  .tup (.inr ⟨_, its, n, h, rfl, rfl, szl hz, hv⟩) r
end Mir
namespace Mir
end Mir
namespace Mir
end Mir
namespace Mir
theorem tgM_name {i : Nat} {w : W} {ρ : EnvM} : tgM (.name i) w ρ = some (ρ.set i (some w)) := by rw [tgM]
theorem tgM_tup {ts : List Tg} {ws : List W} {ρ : EnvM} : tgM (.tup ts) (.tup ws) ρ = tgMs ts ws ρ := by rw [tgM]
theorem tgMs_nil {ρ : EnvM} : tgMs [] [] ρ = some ρ := by rw [tgMs]
theorem tgMs_name {i : Nat} {ts : List Tg} {w : W} {ws : List W} {ρ : EnvM} : tgMs (.name i :: ts) (w :: ws) ρ = tgMs ts ws (ρ.set i (some w)) := by rw [tgMs, tgM]
theorem tgMs_tup {us ts : List Tg} {vs ws : List W} {ρ ρ' : EnvM} (h : tgMs us vs ρ = some ρ') : tgMs (.tup us :: ts) (.tup vs :: ws) ρ = tgMs ts ws ρ' := by rw [tgMs, tgM, h]
end Mir

set_option Elab.async false
set_option linter.all false
namespace Mir
open PySem PySem.Spec PyProof.Rows L2
end Mir

set_option Elab.async false
set_option linter.all false
set_option maxRecDepth 100000
namespace Mir
open PySem PySem.Spec PyProof.Rows L2
section
variable {K : PySem.W.Frag}
def insI (x : Int) : List Int → List Int
  | [] => [x]
  | y :: r => if x ≤ y then x :: y :: r else y :: insI x r
def sortI : List Int → List Int
  | [] => []
  | x :: r => insI x (sortI r)
theorem RL.ints {m : List Addr} {H : Hp} : ∀ l : List Int, RL K m H (l.map W.int) (l.map V.int)
  | [] => .nil
  | x :: r => .cons (.int x) (RL.ints r)
def gSorted : List W → Sto → Rz W := fun ws s => match ws with
  | [x] => match lstOf x s with
    | some xs => match intsOf xs with
      | some is => some (.ref s.length, s ++ [.lst ((sortI is).map W.int)])
      | none => none
    | none => none
  | _ => none
end
end Mir

set_option Elab.async false
set_option linter.all false
set_option maxRecDepth 100000
namespace Mir
open PySem PySem.Spec PyProof.Rows L2
def CDct (K : PySem.W.Frag) (w : World) (mg : Str → Option Value) (x : Str) (tbl : List (Str × Option W)) : Prop :=
  ∃ (d : Addr) (es : Array DictEntry) (n : Nat), mg x = some (.ref d) ∧ KDict K w d es n ∧ ∀ z o, (z, o) ∈ tbl → match o with
    | some wv => ∃ u v, PySem.W.nsIn K d z = some (some u) ∧ RelV v u ∧ ∀ m H, R K m H wv v
    | none => PySem.W.nsIn K d z = some none
def tl (tbl : List (Str × Option W)) (z : Str) : Option (Option W) := (tbl.find? fun p => decide (p.1 = z)).map (·.2)
theorem tl_mem {tbl : List (Str × Option W)} {z : Str} {o : Option W} (h : tl tbl z = some o) : (z, o) ∈ tbl := by
  unfold tl at h
  cases e : tbl.find? (fun p => decide (p.1 = z)) with
  | none => rw [e] at h; cases h
  | some p =>
    rw [e] at h
    have h1 := List.find?_some e
    have h2 := List.mem_of_find?_eq_some e
    cases h
    have : p.1 = z := of_decide_eq_true h1
    rw [← this]
    exact h2
def tKGet2 (K : PySem.W.Frag) (d : Addr) (td ty tx : TE) : TE := fun σ H Q => td σ H fun x H1 => x = .ref d ∧ ty σ H1 fun y H2 => tx σ H2 fun z H3 =>
  ∃ (k : Str) (r : Option Value), y = .str k ∧ PySem.W.nsIn K d k = some r ∧ (∀ u, r = some u → ∃ v, RelV v u ∧ Q v H3) ∧ (r = none → Q z H3)
section
variable {X : Cx} {o e f a b i : Expr} {apos cpos pos : Pos} {td ty tx : TE} {d : Addr} {es : Array DictEntry} {n : Nat}
theorem pe_kget2 (D : KDict X.K X.w d es n) (ho : PE X o td) (he : PE X e ty) (hf : PE X f tx) (m : M2 X o "get" apos e f cpos) : PE X (.Call (.Attribute o "get" apos) [e, f] [] cpos) (tKGet2 X.K d td ty tx) := by
  refine ⟨fun pins s σ H Q I h => ?_⟩
  refine wpAny_Call_method m.base m.few m.line PySem.F.plainAttrs_dict PySem.F.slot_dict_get PySem.F.type_dict_get (thn (ho.run pins s σ H _ I h) fun u s1 ⟨x, H1, I1, rx, ex, q1⟩ => ?_)
  subst ex
  obtain rfl : u = Value.ref d := rx
  refine ⟨kd_type D I1, fun b eb => ?_, ?_⟩
  · cases eb
    exact ⟨_, I1.kIn _ _ D.at_, rfl⟩
  rw [m.trees]
  refine Calls.callWith_builtin rfl (Calls.evalArgs_plain (Calls.spliced_cons (thn (he.run pins s1 σ H1 _ I1 q1) fun iv s2 ⟨y, H2, I2, ry, q2⟩ =>
    Calls.spliced_cons (thn (hf.run pins s2 σ H2 _ I2 q2) fun fv s3 ⟨z, H3, I3, rz, k, r, ey, er, q3, q4⟩ => Calls.spliced_nil ?_))))
  subst ey
  obtain ⟨t, rfl⟩ := (show ∃ t, iv = Value.str k t from ry)
  refine call_meetsIn PySem.F.slot_dict_get (kd_type D I3) PySem.F.entry_dict_get (PySem.F.args_dict_get_3 _ _ _) (meets_dict_get_default (PySem.strKind X.prog X.w) d (PySem.strKind_is X.prog X.w k t) D.low fv)
    ⟨_, PySem.W.mapOf_K (prog := X.prog) (w := X.w) I3.kIn D.at_ D.lit, ?_⟩
  rw [PySem.W.find_K D.at_ er]
  cases r with
  | none => exact ⟨z, H3, I3.tok _, rz, q4 rfl⟩
  | some u =>
    obtain ⟨v, rv, qv⟩ := q3 u rfl
    exact ⟨v, H3, I3.tok _, rv, qv⟩
def eCget (tbl : List (Str × Option W)) (f : FE) : FE := fun ρ s => bd (f ρ s) fun x s1 => match x with
  | .str z => match tl tbl z with
    | some (some w) => some (w, s1)
    | _ => none
  | _ => none
def eCget2 (tbl : List (Str × Option W)) (f g : FE) : FE := fun ρ s => bd (f ρ s) fun x s1 => bd (g ρ s1) fun y s2 => match x with
  | .str z => match tl tbl z with
    | some (some w) => some (w, s2)
    | some none => some (y, s2)
    | _ => none
  | _ => none
theorem m_cget2 {x : Str} {tbl : List (Str × Option W)} {fe ff : FE} {p : Pos} (h : CDct X.K X.w X.mg x tbl) (hg : Gl X x) (he : PE X e (tF X.K fe)) (hf : PE X f (tF X.K ff)) (M : M2 X (.Name x p) "get" apos e f cpos) (hd : (x == ("__debug__" : Str)) = false := by decide) : PE X (.Call (.Attribute (.Name x p) "get" apos) [e, f] [] cpos) (tF X.K (eCget2 tbl fe ff)) := by
  obtain ⟨d, es, n, h1, D, ht⟩ := h
  refine (pe_kget2 D (pe_glob (v := .ref d) hg h1 rfl hd) he hf M).imp fun σ H Q ⟨m, ρ, s, er, sr, w, s', e, q⟩ => ?_
  obtain ⟨y, s1, e1, e⟩ := bd_inv e
  obtain ⟨z, s2, e2, e⟩ := bd_inv e
  refine ⟨rfl, m, ρ, s, er, sr, y, s1, e1, fun m1 H1 v A1 S1 r1 => ⟨m1, ρ, s1, er.adv A1, S1, z, s2, e2, fun m2 H2 u A2 S2 r2 => ?_⟩⟩
  cases r1 with
  | str k =>
    simp only [] at e
    cases et : tl tbl k with
    | none => rw [et] at e; cases e
    | some o =>
      rw [et] at e
      have hm := ht k o (tl_mem et)
      cases o with
      | none =>
        cases e
        exact ⟨k, none, rfl, hm, fun _ h => (by cases h), fun _ => q m2 H2 _ (A1.trans A2) S2 r2⟩
      | some w' =>
        cases e
        obtain ⟨u', v', h2, h3, h4⟩ := hm
        exact ⟨k, some u', rfl, h2, fun _ h => by cases h; exact ⟨v', h3, q m2 H2 _ (A1.trans A2) S2 (h4 m2 H2)⟩, fun h => (by cases h)⟩
  | _ => cases e
def eCin (neg : Bool) (tbl : List (Str × Option W)) (f : FE) : FE := fun ρ s => bd (f ρ s) fun x s1 => match x with
  | .str z => match tl tbl z with
    | some o => some (.bl (if neg then !o.isSome else o.isSome), s1)
    | none => none
  | _ => none
def isLl (x : W) (s : Sto) : Bool := (lstOf x s).isSome
def gIndex : W → List W → Sto → Rz W := fun x as s => match as with
  | [y] => match pyS s 3 x, pyS s 3 y with
    | some (.list ds), some d => if SeqAt.shaped (.list ds) = true ∧ SeqAt.shaped d = true then match ds.findIdx? (fun z => PyData.eqv z d) with
        | some j => some (.int (j : Int), s)
        | none => none
      else none
    | _, _ => none
  | _ => none
def sNever : FS := fun _ _ => none
end
end Mir

set_option Elab.async false
set_option linter.all false
set_option maxRecDepth 100000
namespace Mir
open PySem PySem.Spec PyProof.Rows L2
def Wp {α : Type} (x : Rz α) (Q : α → Sto → Prop) : Prop := ∃ a s, x = some (a, s) ∧ Q a s
theorem Wp.mono {α : Type} {x : Rz α} {Q Q' : α → Sto → Prop} (h : Wp x Q) (q : ∀ a s, Q a s → Q' a s) : Wp x Q' := by
  obtain ⟨a, s, e, h⟩ := h
  exact ⟨a, s, e, q a s h⟩
theorem Wp.of {α : Type} {x : Rz α} {Q : α → Sto → Prop} {a : α} {s : Sto} (e : x = some (a, s)) (h : Q a s) : Wp x Q := ⟨a, s, e, h⟩
theorem wp_some {α : Type} {a : α} {s : Sto} {Q : α → Sto → Prop} : Wp (some (a, s)) Q = Q a s := propext ⟨fun ⟨_, _, e, h⟩ => by cases e; exact h, fun h => ⟨_, _, rfl, h⟩⟩
theorem wp_none {α : Type} {Q : α → Sto → Prop} : Wp (none : Rz α) Q = False := propext ⟨fun ⟨_, _, e, _⟩ => (by cases e), fun h => h.elim⟩
theorem wp_bd {α β : Type} {x : Rz α} {f : α → Sto → Rz β} {Q : β → Sto → Prop} : Wp (bd x f) Q = Wp x (fun a s => Wp (f a s) Q) := propext ⟨fun ⟨b, s, e, h⟩ => by
    obtain ⟨a, s1, e1, e2⟩ := bd_inv e
    exact ⟨a, s1, e1, b, s, e2, h⟩, fun ⟨a, s1, e1, b, s, e2, h⟩ => ⟨b, s, by rw [e1, bd_some, e2], h⟩⟩
theorem wp_ite {α : Type} {c : Prop} [Decidable c] {x y : Rz α} {Q : α → Sto → Prop} : Wp (if c then x else y) Q = if c then Wp x Q else Wp y Q := by split <;> rfl
def runS : List FS → FS
  | [] => sNil
  | f :: r => sCons f (runS r)
def WpS (fs : List FS) (ρ : EnvM) (s : Sto) (Q : Out → Sto → Prop) : Prop := Wp (runS fs ρ s) Q
section
variable {fs : List FS} {f g : FS} {ρ : EnvM} {s : Sto} {Q : Out → Sto → Prop} {i j : Nat} {e : FE} {t : FT}
theorem wps_nil : WpS [] ρ s Q = Q (.nx ρ) s := wp_some
theorem wps_cut : WpS (f :: fs) ρ s Q = Wp (f ρ s) (fun o s1 => match o with | .nx ρ1 => WpS fs ρ1 s1 Q | o => Q o s1) := by
  unfold WpS
  rw [runS]
  unfold sCons
  rw [wp_bd]
  congr
  funext o s1
  cases o <;> first | rfl | simp only [wp_some]
theorem wps_one : WpS [f] ρ s Q = Wp (f ρ s) Q := by
  rw [wps_cut]
  congr
  funext o s1
  cases o <;> simp only [wps_nil]
theorem wps_cons : WpS (sCons f g :: fs) ρ s Q = WpS (f :: g :: fs) ρ s Q := by
  rw [wps_cut, wps_cut]
  unfold sCons
  rw [wp_bd]
  congr
  funext o s1
  cases o with
  | nx ρ1 => show Wp (g ρ1 s1) _ = WpS (g :: fs) ρ1 s1 Q; rw [wps_cut]
  | _ => simp only [wp_some]
theorem wps_pass : WpS (sNil :: fs) ρ s Q = WpS fs ρ s Q := by rw [wps_cut]; unfold sNil; rw [wp_some]
theorem wps_set : WpS (sSet i e :: fs) ρ s Q = Wp (e ρ s) (fun w s1 => WpS fs (ρ.set i (some w)) s1 Q) := by
  rw [wps_cut]; unfold sSet; rw [wp_bd]; simp only [wp_some]
theorem wps_do : WpS (sDo e :: fs) ρ s Q = Wp (e ρ s) (fun _ s1 => WpS fs ρ s1 Q) := by
  rw [wps_cut]; unfold sDo; rw [wp_bd]; simp only [wp_some]
theorem wps_ret : WpS (sRet e :: fs) ρ s Q = Wp (e ρ s) (fun w s1 => Q (.rt w) s1) := by
  rw [wps_cut]; unfold sRet; rw [wp_bd]; simp only [wp_some]
theorem wps_retN : WpS (sRetN :: fs) ρ s Q = Q (.rt .non) s := by
  rw [wps_cut]; unfold sRetN; rw [wp_some]
theorem wps_brk : WpS (sBrk :: fs) ρ s Q = Q (.bk ρ) s := by
  rw [wps_cut]; unfold sBrk; rw [wp_some]
theorem wps_cnt : WpS (sCnt :: fs) ρ s Q = Q (.ct ρ) s := by
  rw [wps_cut]; unfold sCnt; rw [wp_some]
theorem wps_if : WpS (sIf t f g :: fs) ρ s Q = Wp (t ρ s) (fun k s1 => if k = true then WpS (f :: fs) ρ s1 Q else WpS (g :: fs) ρ s1 Q) := by
  rw [wps_cut]; unfold sIf; rw [wp_bd]
  congr
  funext k s1
  rw [wp_ite, wps_cut, wps_cut]
theorem wps_asg {t : Tg} : WpS (sAsg t e :: fs) ρ s Q = Wp (e ρ s) (fun w s1 => match tgM t w ρ with | some ρ1 => WpS fs ρ1 s1 Q | none => False) := by
  rw [wps_cut]; unfold sAsg; rw [wp_bd]
  congr
  funext w s1
  cases tgM t w ρ with
  | none => simp only [wp_none]
  | some ρ1 => simp only [wp_some]
theorem wps_put {o i v : FE} : WpS (sPut o i v :: fs) ρ s Q = Wp (v ρ s) (fun w s1 => Wp (o ρ s1) (fun x s2 => Wp (i ρ s2) (fun y s3 => match setAt x y w s3 with | some s4 => WpS fs ρ s4 Q | none => False))) := by
  rw [wps_cut]; unfold sPut; simp only [wp_bd]
  congr; funext w s1; congr; funext x s2; congr; funext y s3
  cases setAt x y w s3 with
  | none => simp only [wp_none]
  | some ρ1 => simp only [wp_some]
theorem wps_dput {o i v : FE} : WpS (sDput o i v :: fs) ρ s Q = Wp (v ρ s) (fun w s1 => Wp (o ρ s1) (fun x s2 => Wp (i ρ s2) (fun y s3 => match dcOf x s3, keyW y with | some (n, kvs), some k => kvs.length ≤ 100000 ∧ WpS fs ρ (s3.set n (.dct (put kvs k w))) Q | _, _ => False))) := by
  rw [wps_cut]; unfold sDput; simp only [wp_bd]
  congr; funext w s1; congr; funext x s2; congr; funext y s3
  cases dcOf x s3 with
  | none => simp only [wp_none]
  | some p =>
    cases keyW y with
    | none => simp only [wp_none]
    | some k =>
      simp only [wp_ite, wp_some, wp_none]
      split
      · rename_i h; exact propext ⟨fun q => ⟨h, q⟩, fun q => q.2⟩
      · rename_i h; exact propext ⟨fun q => q.elim, fun q => h q.1⟩
theorem wps_aug {g : W → W → Sto → Rz W} : WpS (sAug i g e :: fs) ρ s Q = (match ρ[i]? with | some (some x) => Wp (e ρ s) (fun y s1 => Wp (g x y s1) (fun z s2 => WpS fs (ρ.set i (some z)) s2 Q)) | _ => False) := by
  rw [wps_cut]; unfold sAug
  cases hx : ρ[i]? with
  | none => simp only [hx, wp_none]
  | some o =>
    cases o with
    | none => simp only [hx, wp_none]
    | some x => simp only [hx, wp_bd, wp_some]
theorem wps_par {a : FA} : WpS (sPar i j a :: fs) ρ s Q = Wp (a ρ s) (fun ws s1 => match ws with | [v, w] => WpS fs ((ρ.set i (some v)).set j (some w)) s1 Q | _ => False) := by
  rw [wps_cut]; unfold sPar; rw [wp_bd]
  congr; funext ws s1
  split <;> simp only [wp_some, wp_none]
theorem wps_mid {M : EnvM → Sto → Prop} (h1 : WpS [f] ρ s (fun o s1 => match o with | .nx ρ1 => M ρ1 s1 | o => Q o s1)) (h2 : ∀ ρ1 s1, M ρ1 s1 → WpS fs ρ1 s1 Q) : WpS (f :: fs) ρ s Q := by
  rw [wps_one] at h1
  rw [wps_cut]
  refine h1.mono fun o s1 q => ?_
  cases o with
  | nx ρ1 => exact h2 ρ1 s1 q
  | _ => exact q
def QL (fs : List FS) (I : EnvM → Sto → Prop) (Q : Out → Sto → Prop) : Out → Sto → Prop := fun o s => match o with
  | .nx ρ => I ρ s
  | .ct ρ => I ρ s
  | .bk ρ => WpS fs ρ s Q
  | .rt w => Q (.rt w) s
theorem ql_nx {I : EnvM → Sto → Prop} : QL fs I Q (.nx ρ) s = I ρ s := rfl
theorem ql_ct {I : EnvM → Sto → Prop} : QL fs I Q (.ct ρ) s = I ρ s := rfl
theorem ql_bk {I : EnvM → Sto → Prop} : QL fs I Q (.bk ρ) s = WpS fs ρ s Q := rfl
theorem ql_rt {I : EnvM → Sto → Prop} {w : W} : QL fs I Q (.rt w) s = Q (.rt w) s := rfl
theorem wps_for {it : FI} {t : Tg} : WpS (sFor it t f :: fs) ρ s Q = Wp (it ρ s) (fun x s1 => Wp (fo t f x.2 x.1 ρ s1) (fun o s2 => match o with | .nx ρ1 => WpS fs ρ1 s2 Q | o => Q o s2)) := by
  rw [wps_cut]; unfold sFor; rw [wp_bd]
theorem wp_fo {t : Tg} {c : Option (Nat × List W)} (I : Nat → EnvM → Sto → Prop) : ∀ (xs : List W) (k : Nat) (ρ : EnvM) (s : Sto), I k ρ s →
    (∀ (i : Nat) (x : W) (ρ : EnvM) (s : Sto), xs[i]? = some x → I (k + i) ρ s → okc c s ∧ ∃ ρ1, tgM t x ρ = some ρ1 ∧ WpS [f] ρ1 s (QL fs (fun ρ2 s2 => I (k + i + 1) ρ2 s2) Q)) →
    (∀ ρ s, I (k + xs.length) ρ s → okc c s ∧ WpS fs ρ s Q) → Wp (fo t f c xs ρ s) (fun o s2 => match o with | .nx ρ1 => WpS fs ρ1 s2 Q | o => Q o s2)
  | [], k, ρ, s, h0, _, he => by
    obtain ⟨h1, h2⟩ := he ρ s h0
    rw [fo, if_pos h1, wp_some]
    exact h2
  | x :: xs, k, ρ, s, h0, hs, he => by
    obtain ⟨h1, ρ1, h2, h3⟩ := hs 0 x ρ s rfl h0
    rw [fo, if_pos h1, h2]
    simp only [wp_bd]
    rw [wps_one] at h3
    refine h3.mono fun o s2 q => ?_
    have go : ∀ ρ2, I (k + 1) ρ2 s2 → Wp (fo t f c xs ρ2 s2) (fun o s2 => match o with | .nx ρ1 => WpS fs ρ1 s2 Q | o => Q o s2) := fun ρ2 q =>
      wp_fo I xs (k + 1) ρ2 s2 q (fun i y ρ s hy hi => by
        have e : k + 1 + i = k + (i + 1) := by omega
        rw [e] at hi ⊢
        exact hs (i + 1) y ρ s hy hi) fun ρ s hi => he ρ s (by rw [List.length_cons]; rw [show k + (xs.length + 1) = k + 1 + xs.length by omega]; exact hi)
    cases o with
    | nx ρ2 => exact go ρ2 q
    | ct ρ2 => exact go ρ2 q
    | bk ρ2 => simp only [wp_some]; exact q
    | rt w => simp only [wp_some]; exact q
theorem wps_wh {n : EnvM → Sto → Nat} : WpS (sWh n t f :: fs) ρ s Q = Wp (wh t f (n ρ s) ρ s) (fun o s2 => match o with | .nx ρ1 => WpS fs ρ1 s2 Q | o => Q o s2) := by
  rw [wps_cut]; unfold sWh; rfl
theorem wp_tupG {f : FA} {ρ : EnvM} {s : Sto} {Q : W → Sto → Prop} : Wp (eTup f ρ s) Q = Wp (f ρ s) (fun ws s1 => ws.length ≤ 100000 ∧ Q (.tup ws) s1) := by
  unfold eTup
  rw [wp_bd]
  congr; funext ws s1
  rw [wp_ite, wp_some, wp_none]
  split
  · rename_i h; exact propext ⟨fun q => ⟨h, q⟩, fun q => q.2⟩
  · rename_i h; exact propext ⟨fun q => q.elim, fun q => h q.1⟩
theorem wp_lstG {f : FA} {ρ : EnvM} {s : Sto} {Q : W → Sto → Prop} : Wp (eLst f ρ s) Q = Wp (f ρ s) (fun ws s1 => ws.length ≤ 100000 ∧ Q (.ref s1.length) (s1 ++ [.lst ws])) := by
  unfold eLst
  rw [wp_bd]
  congr; funext ws s1
  rw [wp_ite, wp_some, wp_none]
  split
  · rename_i h; exact propext ⟨fun q => ⟨h, q⟩, fun q => q.2⟩
  · rename_i h; exact propext ⟨fun q => q.elim, fun q => h q.1⟩
theorem wp_tup0 {ρ : EnvM} {s : Sto} {Q : W → Sto → Prop} : Wp (eTup aNil ρ s) Q = Q (.tup []) s := by
  have h : (([] : List W).length ≤ 100000) = True := eq_true (Nat.zero_le _)
  rw [wp_tupG]
  simp only [aCons, aNil, wp_bd, wp_some, h, true_and]
theorem wp_tup1 {f0 : FE} {ρ : EnvM} {s : Sto} {Q : W → Sto → Prop} : Wp (eTup (aCons f0 aNil) ρ s) Q = Wp (f0 ρ s) (fun a0 s0 => Q (.tup [a0]) s0) := by
  have h : ∀ a0 : W, (([a0] : List W).length ≤ 100000) = True := fun a0 => eq_true (Nat.le_of_ble_eq_true rfl)
  rw [wp_tupG]
  simp only [aCons, aNil, wp_bd, wp_some, h, true_and]
theorem wp_tup2 {f0 f1 : FE} {ρ : EnvM} {s : Sto} {Q : W → Sto → Prop} : Wp (eTup (aCons f0 (aCons f1 aNil)) ρ s) Q = Wp (f0 ρ s) (fun a0 s0 => Wp (f1 ρ s0) (fun a1 s1 => Q (.tup [a0, a1]) s1)) := by
  have h : ∀ a0 a1 : W, (([a0, a1] : List W).length ≤ 100000) = True := fun a0 a1 => eq_true (Nat.le_of_ble_eq_true rfl)
  rw [wp_tupG]
  simp only [aCons, aNil, wp_bd, wp_some, h, true_and]
theorem wp_tup3 {f0 f1 f2 : FE} {ρ : EnvM} {s : Sto} {Q : W → Sto → Prop} : Wp (eTup (aCons f0 (aCons f1 (aCons f2 aNil))) ρ s) Q = Wp (f0 ρ s) (fun a0 s0 => Wp (f1 ρ s0) (fun a1 s1 => Wp (f2 ρ s1) (fun a2 s2 => Q (.tup [a0, a1, a2]) s2))) := by
  have h : ∀ a0 a1 a2 : W, (([a0, a1, a2] : List W).length ≤ 100000) = True := fun a0 a1 a2 => eq_true (Nat.le_of_ble_eq_true rfl)
  rw [wp_tupG]
  simp only [aCons, aNil, wp_bd, wp_some, h, true_and]
theorem wp_tup4 {f0 f1 f2 f3 : FE} {ρ : EnvM} {s : Sto} {Q : W → Sto → Prop} : Wp (eTup (aCons f0 (aCons f1 (aCons f2 (aCons f3 aNil)))) ρ s) Q = Wp (f0 ρ s) (fun a0 s0 => Wp (f1 ρ s0) (fun a1 s1 => Wp (f2 ρ s1) (fun a2 s2 => Wp (f3 ρ s2) (fun a3 s3 => Q (.tup [a0, a1, a2, a3]) s3)))) := by
  have h : ∀ a0 a1 a2 a3 : W, (([a0, a1, a2, a3] : List W).length ≤ 100000) = True := fun a0 a1 a2 a3 => eq_true (Nat.le_of_ble_eq_true rfl)
  rw [wp_tupG]
  simp only [aCons, aNil, wp_bd, wp_some, h, true_and]
theorem wp_tup5 {f0 f1 f2 f3 f4 : FE} {ρ : EnvM} {s : Sto} {Q : W → Sto → Prop} : Wp (eTup (aCons f0 (aCons f1 (aCons f2 (aCons f3 (aCons f4 aNil))))) ρ s) Q = Wp (f0 ρ s) (fun a0 s0 => Wp (f1 ρ s0) (fun a1 s1 => Wp (f2 ρ s1) (fun a2 s2 => Wp (f3 ρ s2) (fun a3 s3 => Wp (f4 ρ s3) (fun a4 s4 => Q (.tup [a0, a1, a2, a3, a4]) s4))))) := by
  have h : ∀ a0 a1 a2 a3 a4 : W, (([a0, a1, a2, a3, a4] : List W).length ≤ 100000) = True := fun a0 a1 a2 a3 a4 => eq_true (Nat.le_of_ble_eq_true rfl)
  rw [wp_tupG]
  simp only [aCons, aNil, wp_bd, wp_some, h, true_and]
theorem wp_tup6 {f0 f1 f2 f3 f4 f5 : FE} {ρ : EnvM} {s : Sto} {Q : W → Sto → Prop} : Wp (eTup (aCons f0 (aCons f1 (aCons f2 (aCons f3 (aCons f4 (aCons f5 aNil)))))) ρ s) Q = Wp (f0 ρ s) (fun a0 s0 => Wp (f1 ρ s0) (fun a1 s1 => Wp (f2 ρ s1) (fun a2 s2 => Wp (f3 ρ s2) (fun a3 s3 => Wp (f4 ρ s3) (fun a4 s4 => Wp (f5 ρ s4) (fun a5 s5 => Q (.tup [a0, a1, a2, a3, a4, a5]) s5)))))) := by
  have h : ∀ a0 a1 a2 a3 a4 a5 : W, (([a0, a1, a2, a3, a4, a5] : List W).length ≤ 100000) = True := fun a0 a1 a2 a3 a4 a5 => eq_true (Nat.le_of_ble_eq_true rfl)
  rw [wp_tupG]
  simp only [aCons, aNil, wp_bd, wp_some, h, true_and]
theorem wp_tup7 {f0 f1 f2 f3 f4 f5 f6 : FE} {ρ : EnvM} {s : Sto} {Q : W → Sto → Prop} : Wp (eTup (aCons f0 (aCons f1 (aCons f2 (aCons f3 (aCons f4 (aCons f5 (aCons f6 aNil))))))) ρ s) Q = Wp (f0 ρ s) (fun a0 s0 => Wp (f1 ρ s0) (fun a1 s1 => Wp (f2 ρ s1) (fun a2 s2 => Wp (f3 ρ s2) (fun a3 s3 => Wp (f4 ρ s3) (fun a4 s4 => Wp (f5 ρ s4) (fun a5 s5 => Wp (f6 ρ s5) (fun a6 s6 => Q (.tup [a0, a1, a2, a3, a4, a5, a6]) s6))))))) := by
  have h : ∀ a0 a1 a2 a3 a4 a5 a6 : W, (([a0, a1, a2, a3, a4, a5, a6] : List W).length ≤ 100000) = True := fun a0 a1 a2 a3 a4 a5 a6 => eq_true (Nat.le_of_ble_eq_true rfl)
  rw [wp_tupG]
  simp only [aCons, aNil, wp_bd, wp_some, h, true_and]
theorem wp_lst0 {ρ : EnvM} {s : Sto} {Q : W → Sto → Prop} : Wp (eLst aNil ρ s) Q = Q (.ref s.length) (s ++ [.lst []]) := by
  have h : (([] : List W).length ≤ 100000) = True := eq_true (Nat.zero_le _)
  rw [wp_lstG]
  simp only [aCons, aNil, wp_bd, wp_some, h, true_and]
theorem wp_lst1 {f0 : FE} {ρ : EnvM} {s : Sto} {Q : W → Sto → Prop} : Wp (eLst (aCons f0 aNil) ρ s) Q = Wp (f0 ρ s) (fun a0 s0 => Q (.ref s0.length) (s0 ++ [.lst [a0]])) := by
  have h : ∀ a0 : W, (([a0] : List W).length ≤ 100000) = True := fun a0 => eq_true (Nat.le_of_ble_eq_true rfl)
  rw [wp_lstG]
  simp only [aCons, aNil, wp_bd, wp_some, h, true_and]
theorem wp_lst2 {f0 f1 : FE} {ρ : EnvM} {s : Sto} {Q : W → Sto → Prop} : Wp (eLst (aCons f0 (aCons f1 aNil)) ρ s) Q = Wp (f0 ρ s) (fun a0 s0 => Wp (f1 ρ s0) (fun a1 s1 => Q (.ref s1.length) (s1 ++ [.lst [a0, a1]]))) := by
  have h : ∀ a0 a1 : W, (([a0, a1] : List W).length ≤ 100000) = True := fun a0 a1 => eq_true (Nat.le_of_ble_eq_true rfl)
  rw [wp_lstG]
  simp only [aCons, aNil, wp_bd, wp_some, h, true_and]
theorem wp_lst3 {f0 f1 f2 : FE} {ρ : EnvM} {s : Sto} {Q : W → Sto → Prop} : Wp (eLst (aCons f0 (aCons f1 (aCons f2 aNil))) ρ s) Q = Wp (f0 ρ s) (fun a0 s0 => Wp (f1 ρ s0) (fun a1 s1 => Wp (f2 ρ s1) (fun a2 s2 => Q (.ref s2.length) (s2 ++ [.lst [a0, a1, a2]])))) := by
  have h : ∀ a0 a1 a2 : W, (([a0, a1, a2] : List W).length ≤ 100000) = True := fun a0 a1 a2 => eq_true (Nat.le_of_ble_eq_true rfl)
  rw [wp_lstG]
  simp only [aCons, aNil, wp_bd, wp_some, h, true_and]
theorem wp_lst4 {f0 f1 f2 f3 : FE} {ρ : EnvM} {s : Sto} {Q : W → Sto → Prop} : Wp (eLst (aCons f0 (aCons f1 (aCons f2 (aCons f3 aNil)))) ρ s) Q = Wp (f0 ρ s) (fun a0 s0 => Wp (f1 ρ s0) (fun a1 s1 => Wp (f2 ρ s1) (fun a2 s2 => Wp (f3 ρ s2) (fun a3 s3 => Q (.ref s3.length) (s3 ++ [.lst [a0, a1, a2, a3]]))))) := by
  have h : ∀ a0 a1 a2 a3 : W, (([a0, a1, a2, a3] : List W).length ≤ 100000) = True := fun a0 a1 a2 a3 => eq_true (Nat.le_of_ble_eq_true rfl)
  rw [wp_lstG]
  simp only [aCons, aNil, wp_bd, wp_some, h, true_and]
theorem wp_lst5 {f0 f1 f2 f3 f4 : FE} {ρ : EnvM} {s : Sto} {Q : W → Sto → Prop} : Wp (eLst (aCons f0 (aCons f1 (aCons f2 (aCons f3 (aCons f4 aNil))))) ρ s) Q = Wp (f0 ρ s) (fun a0 s0 => Wp (f1 ρ s0) (fun a1 s1 => Wp (f2 ρ s1) (fun a2 s2 => Wp (f3 ρ s2) (fun a3 s3 => Wp (f4 ρ s3) (fun a4 s4 => Q (.ref s4.length) (s4 ++ [.lst [a0, a1, a2, a3, a4]])))))) := by
  have h : ∀ a0 a1 a2 a3 a4 : W, (([a0, a1, a2, a3, a4] : List W).length ≤ 100000) = True := fun a0 a1 a2 a3 a4 => eq_true (Nat.le_of_ble_eq_true rfl)
  rw [wp_lstG]
  simp only [aCons, aNil, wp_bd, wp_some, h, true_and]
theorem wp_lst6 {f0 f1 f2 f3 f4 f5 : FE} {ρ : EnvM} {s : Sto} {Q : W → Sto → Prop} : Wp (eLst (aCons f0 (aCons f1 (aCons f2 (aCons f3 (aCons f4 (aCons f5 aNil)))))) ρ s) Q = Wp (f0 ρ s) (fun a0 s0 => Wp (f1 ρ s0) (fun a1 s1 => Wp (f2 ρ s1) (fun a2 s2 => Wp (f3 ρ s2) (fun a3 s3 => Wp (f4 ρ s3) (fun a4 s4 => Wp (f5 ρ s4) (fun a5 s5 => Q (.ref s5.length) (s5 ++ [.lst [a0, a1, a2, a3, a4, a5]]))))))) := by
  have h : ∀ a0 a1 a2 a3 a4 a5 : W, (([a0, a1, a2, a3, a4, a5] : List W).length ≤ 100000) = True := fun a0 a1 a2 a3 a4 a5 => eq_true (Nat.le_of_ble_eq_true rfl)
  rw [wp_lstG]
  simp only [aCons, aNil, wp_bd, wp_some, h, true_and]
theorem wp_lst7 {f0 f1 f2 f3 f4 f5 f6 : FE} {ρ : EnvM} {s : Sto} {Q : W → Sto → Prop} : Wp (eLst (aCons f0 (aCons f1 (aCons f2 (aCons f3 (aCons f4 (aCons f5 (aCons f6 aNil))))))) ρ s) Q = Wp (f0 ρ s) (fun a0 s0 => Wp (f1 ρ s0) (fun a1 s1 => Wp (f2 ρ s1) (fun a2 s2 => Wp (f3 ρ s2) (fun a3 s3 => Wp (f4 ρ s3) (fun a4 s4 => Wp (f5 ρ s4) (fun a5 s5 => Wp (f6 ρ s5) (fun a6 s6 => Q (.ref s6.length) (s6 ++ [.lst [a0, a1, a2, a3, a4, a5, a6]])))))))) := by
  have h : ∀ a0 a1 a2 a3 a4 a5 a6 : W, (([a0, a1, a2, a3, a4, a5, a6] : List W).length ≤ 100000) = True := fun a0 a1 a2 a3 a4 a5 a6 => eq_true (Nat.le_of_ble_eq_true rfl)
  rw [wp_lstG]
  simp only [aCons, aNil, wp_bd, wp_some, h, true_and]
theorem wp_lst8 {f0 f1 f2 f3 f4 f5 f6 f7 : FE} {ρ : EnvM} {s : Sto} {Q : W → Sto → Prop} : Wp (eLst (aCons f0 (aCons f1 (aCons f2 (aCons f3 (aCons f4 (aCons f5 (aCons f6 (aCons f7 aNil)))))))) ρ s) Q = Wp (f0 ρ s) (fun a0 s0 => Wp (f1 ρ s0) (fun a1 s1 => Wp (f2 ρ s1) (fun a2 s2 => Wp (f3 ρ s2) (fun a3 s3 => Wp (f4 ρ s3) (fun a4 s4 => Wp (f5 ρ s4) (fun a5 s5 => Wp (f6 ρ s5) (fun a6 s6 => Wp (f7 ρ s6) (fun a7 s7 => Q (.ref s7.length) (s7 ++ [.lst [a0, a1, a2, a3, a4, a5, a6, a7]]))))))))) := by
  have h : ∀ a0 a1 a2 a3 a4 a5 a6 a7 : W, (([a0, a1, a2, a3, a4, a5, a6, a7] : List W).length ≤ 100000) = True := fun a0 a1 a2 a3 a4 a5 a6 a7 => eq_true (Nat.le_of_ble_eq_true rfl)
  rw [wp_lstG]
  simp only [aCons, aNil, wp_bd, wp_some, h, true_and]
theorem wp_lst9 {f0 f1 f2 f3 f4 f5 f6 f7 f8 : FE} {ρ : EnvM} {s : Sto} {Q : W → Sto → Prop} : Wp (eLst (aCons f0 (aCons f1 (aCons f2 (aCons f3 (aCons f4 (aCons f5 (aCons f6 (aCons f7 (aCons f8 aNil))))))))) ρ s) Q = Wp (f0 ρ s) (fun a0 s0 => Wp (f1 ρ s0) (fun a1 s1 => Wp (f2 ρ s1) (fun a2 s2 => Wp (f3 ρ s2) (fun a3 s3 => Wp (f4 ρ s3) (fun a4 s4 => Wp (f5 ρ s4) (fun a5 s5 => Wp (f6 ρ s5) (fun a6 s6 => Wp (f7 ρ s6) (fun a7 s7 => Wp (f8 ρ s7) (fun a8 s8 => Q (.ref s8.length) (s8 ++ [.lst [a0, a1, a2, a3, a4, a5, a6, a7, a8]])))))))))) := by
  have h : ∀ a0 a1 a2 a3 a4 a5 a6 a7 a8 : W, (([a0, a1, a2, a3, a4, a5, a6, a7, a8] : List W).length ≤ 100000) = True := fun a0 a1 a2 a3 a4 a5 a6 a7 a8 => eq_true (Nat.le_of_ble_eq_true rfl)
  rw [wp_lstG]
  simp only [aCons, aNil, wp_bd, wp_some, h, true_and]
theorem wp_lst10 {f0 f1 f2 f3 f4 f5 f6 f7 f8 f9 : FE} {ρ : EnvM} {s : Sto} {Q : W → Sto → Prop} : Wp (eLst (aCons f0 (aCons f1 (aCons f2 (aCons f3 (aCons f4 (aCons f5 (aCons f6 (aCons f7 (aCons f8 (aCons f9 aNil)))))))))) ρ s) Q = Wp (f0 ρ s) (fun a0 s0 => Wp (f1 ρ s0) (fun a1 s1 => Wp (f2 ρ s1) (fun a2 s2 => Wp (f3 ρ s2) (fun a3 s3 => Wp (f4 ρ s3) (fun a4 s4 => Wp (f5 ρ s4) (fun a5 s5 => Wp (f6 ρ s5) (fun a6 s6 => Wp (f7 ρ s6) (fun a7 s7 => Wp (f8 ρ s7) (fun a8 s8 => Wp (f9 ρ s8) (fun a9 s9 => Q (.ref s9.length) (s9 ++ [.lst [a0, a1, a2, a3, a4, a5, a6, a7, a8, a9]]))))))))))) := by
  have h : ∀ a0 a1 a2 a3 a4 a5 a6 a7 a8 a9 : W, (([a0, a1, a2, a3, a4, a5, a6, a7, a8, a9] : List W).length ≤ 100000) = True := fun a0 a1 a2 a3 a4 a5 a6 a7 a8 a9 => eq_true (Nat.le_of_ble_eq_true rfl)
  rw [wp_lstG]
  simp only [aCons, aNil, wp_bd, wp_some, h, true_and]
theorem wp_lst11 {f0 f1 f2 f3 f4 f5 f6 f7 f8 f9 f10 : FE} {ρ : EnvM} {s : Sto} {Q : W → Sto → Prop} : Wp (eLst (aCons f0 (aCons f1 (aCons f2 (aCons f3 (aCons f4 (aCons f5 (aCons f6 (aCons f7 (aCons f8 (aCons f9 (aCons f10 aNil))))))))))) ρ s) Q = Wp (f0 ρ s) (fun a0 s0 => Wp (f1 ρ s0) (fun a1 s1 => Wp (f2 ρ s1) (fun a2 s2 => Wp (f3 ρ s2) (fun a3 s3 => Wp (f4 ρ s3) (fun a4 s4 => Wp (f5 ρ s4) (fun a5 s5 => Wp (f6 ρ s5) (fun a6 s6 => Wp (f7 ρ s6) (fun a7 s7 => Wp (f8 ρ s7) (fun a8 s8 => Wp (f9 ρ s8) (fun a9 s9 => Wp (f10 ρ s9) (fun a10 s10 => Q (.ref s10.length) (s10 ++ [.lst [a0, a1, a2, a3, a4, a5, a6, a7, a8, a9, a10]])))))))))))) := by
  have h : ∀ a0 a1 a2 a3 a4 a5 a6 a7 a8 a9 a10 : W, (([a0, a1, a2, a3, a4, a5, a6, a7, a8, a9, a10] : List W).length ≤ 100000) = True := fun a0 a1 a2 a3 a4 a5 a6 a7 a8 a9 a10 => eq_true (Nat.le_of_ble_eq_true rfl)
  rw [wp_lstG]
  simp only [aCons, aNil, wp_bd, wp_some, h, true_and]
theorem wp_lst12 {f0 f1 f2 f3 f4 f5 f6 f7 f8 f9 f10 f11 : FE} {ρ : EnvM} {s : Sto} {Q : W → Sto → Prop} : Wp (eLst (aCons f0 (aCons f1 (aCons f2 (aCons f3 (aCons f4 (aCons f5 (aCons f6 (aCons f7 (aCons f8 (aCons f9 (aCons f10 (aCons f11 aNil)))))))))))) ρ s) Q = Wp (f0 ρ s) (fun a0 s0 => Wp (f1 ρ s0) (fun a1 s1 => Wp (f2 ρ s1) (fun a2 s2 => Wp (f3 ρ s2) (fun a3 s3 => Wp (f4 ρ s3) (fun a4 s4 => Wp (f5 ρ s4) (fun a5 s5 => Wp (f6 ρ s5) (fun a6 s6 => Wp (f7 ρ s6) (fun a7 s7 => Wp (f8 ρ s7) (fun a8 s8 => Wp (f9 ρ s8) (fun a9 s9 => Wp (f10 ρ s9) (fun a10 s10 => Wp (f11 ρ s10) (fun a11 s11 => Q (.ref s11.length) (s11 ++ [.lst [a0, a1, a2, a3, a4, a5, a6, a7, a8, a9, a10, a11]]))))))))))))) := by
  have h : ∀ a0 a1 a2 a3 a4 a5 a6 a7 a8 a9 a10 a11 : W, (([a0, a1, a2, a3, a4, a5, a6, a7, a8, a9, a10, a11] : List W).length ≤ 100000) = True := fun a0 a1 a2 a3 a4 a5 a6 a7 a8 a9 a10 a11 => eq_true (Nat.le_of_ble_eq_true rfl)
  rw [wp_lstG]
  simp only [aCons, aNil, wp_bd, wp_some, h, true_and]
theorem wp_mkF {n N : Nat} {ws : List W} {R : W → Sto → Prop} (h : ws.length = n) : Wp (mkF n N f ws s) R = WpS [f] (ws.map some ++ List.replicate (N - ws.length) none) s (fun o s1 => match o with | .rt w => R w s1 | .nx _ => R .non s1 | _ => False) := by
  unfold mkF
  rw [if_pos h, wp_bd, wps_one]
  congr; funext o s1
  cases o <;> simp only [wp_some, wp_none]
theorem wp_lcf {t : Tg} {u : FT} {c : Option (Nat × List W)} {R : List W → Sto → Prop} (I : Nat → List W → Sto → Prop) : ∀ (xs : List W) (k : Nat) (acc : List W) (s : Sto), I k acc s →
    (∀ (i : Nat) (x : W) (acc : List W) (s : Sto), xs[i]? = some x → I (k + i) acc s → okc c s ∧ ∃ ρ1, tgM t x ρ = some ρ1 ∧ Wp (u ρ1 s) (fun b s1 => if b = true then Wp (e ρ1 s1) (fun w s2 => I (k + i + 1) (acc ++ [w]) s2) else I (k + i + 1) acc s1)) →
    (∀ acc' s, I (k + xs.length) acc' s → okc c s ∧ ∀ ws, acc' = acc ++ ws → R ws s) → Wp (lcf t u e c ρ xs s) R
  | [], k, acc, s, h0, _, he => by
    obtain ⟨h1, h2⟩ := he acc s h0
    rw [lcf, if_pos h1, wp_some]
    exact h2 [] (List.append_nil _).symm
  | x :: xs, k, acc, s, h0, hs, he => by
    obtain ⟨h1, ρ1, h2, h3⟩ := hs 0 x acc s rfl h0
    rw [lcf, if_pos h1, h2]
    simp only [wp_bd]
    have st : ∀ (i : Nat) (x : W) (acc : List W) (s : Sto), xs[i]? = some x → I (k + 1 + i) acc s → okc c s ∧ ∃ ρ1, tgM t x ρ = some ρ1 ∧ Wp (u ρ1 s) (fun b s1 => if b = true then Wp (e ρ1 s1) (fun w s2 => I (k + 1 + i + 1) (acc ++ [w]) s2) else I (k + 1 + i + 1) acc s1) := fun i y acc s hy hi => by
      have e : k + 1 + i = k + (i + 1) := by omega
      rw [e] at hi ⊢
      exact hs (i + 1) y acc s hy hi
    have hl : ∀ acc' s, I (k + 1 + xs.length) acc' s → okc c s ∧ ∀ ws, acc' = acc ++ ws → R ws s := fun a s hi => he a s (by rw [List.length_cons]; rw [show k + (xs.length + 1) = k + 1 + xs.length by omega]; exact hi)
    refine h3.mono fun b s1 q => ?_
    cases b with
    | false =>
      simp only [Bool.false_eq_true, if_false] at q ⊢
      exact wp_lcf I xs (k + 1) acc s1 q st hl
    | true =>
      simp only [if_true, wp_bd] at q ⊢
      refine q.mono fun w s2 q => ?_
      refine wp_lcf I xs (k + 1) (acc ++ [w]) s2 q st fun a s hi => ?_
      obtain ⟨h1, h2⟩ := hl a s hi
      refine ⟨h1, fun ws e => ?_⟩
      rw [wp_some]
      exact h2 (w :: ws) (by rw [e, List.append_assoc]; rfl)
theorem wp_lc {vs : List Nat} {it : FI} {t : Tg} {u : FT} {R : W → Sto → Prop} : Wp (eLc vs it t u e ρ s) R = Wp (it ρ s) (fun x s1 => x.1.length ≤ 100000 ∧ Wp (lcf t u e x.2 (wipeM ρ vs) x.1 s1) (fun ws s2 => R (.ref s2.length) (s2 ++ [.lst ws]))) := by
  unfold eLc
  rw [wp_bd]
  congr; funext x s1
  rw [wp_ite, wp_none, wp_bd]
  simp only [wp_some]
  split
  · rename_i h; exact propext ⟨fun q => ⟨h, q⟩, fun q => q.2⟩
  · rename_i h; exact propext ⟨fun q => q.elim, fun q => h q.1⟩
end
end Mir

set_option Elab.async false
set_option linter.all false
set_option maxRecDepth 100000
namespace Mir
open PySem PySem.Spec PyProof.Rows L2
structure Fr (L : List Nat) (s s' : Sto) : Prop where
  len : s.length ≤ s'.length
  at_ : ∀ i o, i ∉ L → s[i]? = some o → s'[i]? = some o
theorem Fr.refl {L : List Nat} {s : Sto} : Fr L s s := ⟨Nat.le_refl _, fun _ _ _ h => h⟩
theorem Fr.trans {L : List Nat} {s s' s'' : Sto} (h : Fr L s s') (h' : Fr L s' s'') : Fr L s s'' := ⟨Nat.le_trans h.len h'.len, fun i o hi e => h'.at_ i o hi (h.at_ i o hi e)⟩
theorem Fr.mono {L L' : List Nat} {s s' : Sto} (h : Fr L s s') (q : ∀ i ∈ L, i ∈ L') : Fr L' s s' := ⟨h.len, fun i o hi e => h.at_ i o (fun z => hi (q i z)) e⟩
theorem Fr.app {L : List Nat} {s t : Sto} : Fr L s (s ++ t) := ⟨by simp, fun i o _ e => by rw [List.getElem?_append_left (List.getElem?_eq_some_iff.mp e).1]; exact e⟩
theorem Fr.set {L : List Nat} {s : Sto} {n : Nat} {o : O} (h : n ∈ L) : Fr L s (s.set n o) := ⟨by simp, fun i o' hi e => by rw [List.getElem?_set_ne (fun z => hi (by rw [← z]; exact h))]; exact e⟩
theorem Fr.new {L L' : List Nat} {s s1 s2 : Sto} (h : Fr L s s1) (h' : Fr (L' ++ L) s1 s2) (q : ∀ i ∈ L', s.length ≤ i) : Fr L s s2 :=
  ⟨Nat.le_trans h.len h'.len, fun i o hi e => h'.at_ i o (fun z => by
    rcases List.mem_append.mp z with z | z
    · have := (List.getElem?_eq_some_iff.mp e).1
      have := q i z
      omega
    · exact hi z) (h.at_ i o hi e)⟩
theorem getset {s : Sto} {r : Nat} {o o' : O} (h : s[r]? = some o) : (s.set r o')[r]? = some o' := by
  rw [List.getElem?_set_self (List.getElem?_eq_some_iff.mp h).1]
theorem getne {s : Sto} {r i : Nat} {o' : O} (h : i ≠ r) : (s.set r o')[i]? = s[i]? := List.getElem?_set_ne (fun e => h e.symm)
theorem setset {s : Sto} {r : Nat} {o o' : O} : (s.set r o).set r o' = s.set r o' := List.set_set ..
theorem gapp {s t : Sto} {r : Nat} {o : O} (h : s[r]? = some o) : (s ++ t)[r]? = some o := by
  rw [List.getElem?_append_left (List.getElem?_eq_some_iff.mp h).1]
  exact h
theorem gnew {s t : Sto} {o : O} : (s ++ o :: t)[s.length]? = some o := by simp
theorem gltn {s : Sto} {r : Nat} {o : O} (h : s[r]? = some o) : r < s.length := (List.getElem?_eq_some_iff.mp h).1
theorem ii {f : Int → Int → W} {i j : Int} {s : Sto} : gII f (.int i) (.int j) s = some (f i j, s) := rfl
theorem mulR {i j : Int} {s : Sto} (h1 : -(2 ^ 64) < j) (h2 : j < 2 ^ 64) : Mir.gMul (.int i) (.int j) s = some (.int (i * j), s) := by
  simp only [Mir.gMul]
  rw [if_pos (.inr ⟨h1, h2⟩)]
theorem modR {i j : Int} {s : Sto} (h1 : 0 < j) : gMod (.int i) (.int j) s = some (.int (i % j), s) := by
  simp only [gIIc, decide_eq_true h1, if_true]
theorem divR {i j : Int} {s : Sto} (h1 : 0 < j) (h2 : j < 1073741824) : gDiv (.int i) (.int j) s = some (.int (i / j), s) := by
  have h : decide (0 < j ∧ j < 1073741824) = true := decide_eq_true ⟨h1, h2⟩
  simp only [gIIc, h, if_true]
theorem divRW {i j : Int} {s : Sto} (h1 : 0 < j) (h2 : j < 4611686018427387904) : gDivW (.int i) (.int j) s = some (.int (i / j), s) := by
  have h3 : j.natAbs < 2 ^ 62 := by omega
  have h : decide (0 < j ∧ j.natAbs.log2 < 9000) = true := decide_eq_true ⟨h1, Nat.lt_trans ((Nat.log2_lt (by omega)).mpr h3) (by decide)⟩
  simp only [gIIc, h, if_true]
theorem addI {i j : Int} {s : Sto} : gAdd (.int i) (.int j) s = some (.int (i + j), s) := rfl
theorem subI {i j : Int} {s : Sto} : Mir.gSub (.int i) (.int j) s = some (.int (i - j), s) := rfl
theorem int1 {i : Int} {s : Sto} : gInt1 [.int i] s = some (.int i, s) := rfl
theorem negI {i : Int} {s : Sto} : gNeg (.int i) s = some (.int (-i), s) := rfl
theorem eqI {i j : Int} {s : Sto} : gEq (.int i) (.int j) s = some (.bl (decide (i = j)), s) := rfl
theorem neI {i j : Int} {s : Sto} : gNe (.int i) (.int j) s = some (.bl (!decide (i = j)), s) := rfl
theorem eqS {a b : Str} {s : Sto} : gEq (.str a) (.str b) s = some (.bl (decide (a = b)), s) := rfl
theorem neS {a b : Str} {s : Sto} : gNe (.str a) (.str b) s = some (.bl (!decide (a = b)), s) := rfl
theorem isN {x : W} {s : Sto} : gIs x .non s = some (.bl (Mir.isNon x), s) := by cases x <;> rfl
theorem isnN {x : W} {s : Sto} : gIsNot x .non s = some (.bl (!Mir.isNon x), s) := by cases x <;> rfl
theorem ix0 {a : W} {r : List W} {s : Sto} : gIx (.tup (a :: r)) (.int 0) s = some (a, s) := by
  have h : atI (a :: r) ((0 : Nat) : Int) = some a := atI_nat rfl
  have h : atI (a :: r) 0 = some a := h
  simp only [gIx, seqOf, h]
theorem ix1 {a b : W} {r : List W} {s : Sto} : gIx (.tup (a :: b :: r)) (.int 1) s = some (b, s) := by
  have h : atI (a :: b :: r) ((1 : Nat) : Int) = some b := atI_nat rfl
  have h : atI (a :: b :: r) 1 = some b := h
  simp only [gIx, seqOf, h]
theorem ix2 {a b c : W} {r : List W} {s : Sto} : gIx (.tup (a :: b :: c :: r)) (.int 2) s = some (c, s) := by
  have h : atI (a :: b :: c :: r) ((2 : Nat) : Int) = some c := atI_nat rfl
  have h : atI (a :: b :: c :: r) 2 = some c := h
  simp only [gIx, seqOf, h]
theorem ix3 {a b c d : W} {r : List W} {s : Sto} : gIx (.tup (a :: b :: c :: d :: r)) (.int 3) s = some (d, s) := by
  have h : atI (a :: b :: c :: d :: r) ((3 : Nat) : Int) = some d := atI_nat rfl
  have h : atI (a :: b :: c :: d :: r) 3 = some d := h
  simp only [gIx, seqOf, h]
theorem ixL {n i : Nat} {ws : List W} {w : W} {s : Sto} (h : s[n]? = some (.lst ws)) (hi : ws[i]? = some w) : gIx (.ref n) (.int (i : Int)) s = some (w, s) := by
  simp only [gIx, seqOf, h, atI_nat hi]
theorem lstR {n : Nat} {ws : List W} {s : Sto} (h : s[n]? = some (.lst ws)) : lstOf (.ref n) s = some ws := by simp only [lstOf, h]
theorem chkR {n : Nat} {ws : List W} : chkOf (.ref n) ws = some (n, ws) := rfl
theorem chkT {us ws : List W} : chkOf (.tup us) ws = none := rfl
theorem chkO {us ws : List W} : chkOf (.lro us) ws = none := rfl
theorem lstO {ws : List W} {s : Sto} : lstOf (.lro ws) s = some ws := rfl
theorem lenL {n : Nat} {ws : List W} {s : Sto} (h : s[n]? = some (.lst ws)) : gLen [.ref n] s = some (.int (ws.length : Int), s) := by
  simp only [gLen, lenW, h]
theorem lenT {ws : List W} {s : Sto} : gLen [.tup ws] s = some (.int (ws.length : Int), s) := rfl
theorem lenR {ws : List W} {s : Sto} : gLen [.lro ws] s = some (.int (ws.length : Int), s) := rfl
theorem tupL {n : Nat} {ws : List W} {s : Sto} (h : s[n]? = some (.lst ws)) : gTuple [.ref n] s = some (.tup ws, s) := by
  simp only [gTuple, seqOf, h]
theorem isLR {n : Nat} {s : Sto} {ws : List W} (h : s[n]? = some (.lst ws)) : isL (.ref n) s = true := by simp only [isL, h]
theorem appL {n : Nat} {s : Sto} {ws : List W} {w : W} (h : s[n]? = some (.lst ws)) (hl : ws.length ≤ 100000) : gAppend (.ref n) [w] s = some (.non, s.set n (.lst (ws ++ [w]))) := by
  simp only [gLm, h, fAppend, hl, if_true]
theorem nc0 : ((0 : Nat) : Int) = 0 := rfl
theorem nc1 : ((1 : Nat) : Int) = 1 := rfl
theorem nc2 : ((2 : Nat) : Int) = 2 := rfl
theorem nc3 : ((3 : Nat) : Int) = 3 := rfl
theorem truB {b : Bool} {s : Sto} : truW (.bl b) s = some b := rfl
theorem truN {s : Sto} : truW .non s = some false := rfl
theorem rngL {n : Nat} {s : Sto} (h : n ≤ 100000) : (if -(2 ^ 62) ≤ (n : Int) ∧ (n : Int) < 2 ^ 62 then some (((List.range (n : Int).toNat).map fun (i : Nat) => W.int (0 + (i : Int)), (none : Option (Nat × List W))), s) else none) = some (((List.range n).map fun (i : Nat) => W.int (i : Int), none), s) := by
  have key : ∀ j : Int, 0 ≤ j → j ≤ 100000 → (-(2 ^ 62) ≤ j ∧ j < 2 ^ 62) := fun j h0 h1 => by omega
  rw [if_pos (key (n : Int) (by omega) (by omega)), Int.toNat_natCast]
  simp only [Int.zero_add]
theorem rng1 {f : FE} {ρ : EnvM} {s s1 : Sto} {n : Nat} (e : f ρ s = some (.int (n : Int), s1)) (h : n ≤ 100000) : Mir.iRng1 f ρ s = some (((List.range n).map fun (i : Nat) => W.int (i : Int), none), s1) := by
  unfold Mir.iRng1
  rw [e, bd_some]
  exact rngL h
theorem wp_rng1 {f : FE} {ρ : EnvM} {s : Sto} {R : (List W × Option (Nat × List W)) → Sto → Prop} (h : Wp (f ρ s) (fun w s1 => ∃ n : Nat, w = .int (n : Int) ∧ n ≤ 100000 ∧ R ((List.range n).map fun (i : Nat) => W.int (i : Int), none) s1)) : Wp (Mir.iRng1 f ρ s) R := by
  obtain ⟨w, s1, e, n, rfl, hn, h⟩ := h
  exact ⟨_, _, rng1 e hn, h⟩
abbrev wi (l : List Int) : List W := l.map W.int
theorem ixI {n i : Nat} {l : List Int} {v : Int} {s : Sto} (h : s[n]? = some (.lst (wi l))) (hi : l[i]? = some v) : gIx (.ref n) (.int (i : Int)) s = some (.int v, s) := ixL h (by rw [List.getElem?_map, hi]; rfl)
theorem dcR {n : Nat} {s : Sto} {kvs : List (Key × W)} (h : s[n]? = some (.dct kvs)) : dcOf (.ref n) s = some (n, kvs) := by simp only [dcOf, h]
theorem keyI {i : Int} : keyW (.int i) = some (.inl i) := rfl
theorem keyS {i : Str} : keyW (.str i) = some (.inr i) := rfl
noncomputable def BMix : FS := (sCons (sSet 0 (eOp gMod (eFn gInt1 (aCons (eOp gAdd (eOp gMul (eVar 0) (eC (.int 6364136223846793005))) (eC (.int 1442695040888963407))) aNil)) (eC (.int 18446744073709551616))))
    (sRet (eOp gMod (eFn gInt1 (aCons (eOp gAdd (eOp gDivW (eOp gMul (eVar 0) (eVar 0)) (eC (.int 4294967296))) (eOp gMul (eVar 0) (eC (.int 69621)))) aNil)) (eC (.int 18446744073709551557)))))
noncomputable def TMix : List W → Sto → Rz W := mkF 1 1 BMix
noncomputable def BTake : FS := (sCons (sIf (bTest (eOp gLt (eOp gIx (eVar 0) (eC (.int 2))) (eVar 1))) (sIf (bTest (eOp gLt (eOp gIx (eVar 0) (eC (.int 1))) (eFn gLen (aCons (eOp gIx (eVar 0) (eC (.int 0))) aNil)))) (sCons (sSet 2 (eOp gIx (eOp gIx (eVar 0) (eC (.int 0))) (eOp gIx (eVar 0) (eC (.int 1)))))
    (sCons (sSet 2 (eIf (bTest (eOp gGe (eVar 2) (eC (.int 0)))) (eOp gMul (eC (.int 2)) (eVar 2)) (eOp gSub (eOp gMul (eUn gNeg (eC (.int 2))) (eVar 2)) (eC (.int 1)))))
    (sCons (sPut (eVar 0) (eC (.int 1)) (eOp gAdd (eOp gIx (eVar 0) (eC (.int 1))) (eC (.int 1))))
    (sCons (sPut (eVar 0) (eC (.int 3)) (eFn TMix (aCons (eOp gAdd (eOp gIx (eVar 0) (eC (.int 3))) (eVar 2)) aNil)))
    (sPut (eVar 0) (eC (.int 2)) (eIf (bTest (eOp gGe (eVar 2) (eOp gPow (eC (.int 10)) (eC (.int 18))))) (eVar 2) (eFn TMix (aCons (eFn TMix (aCons (eVar 2) aNil)) aNil)))))))) (sCons (sPut (eVar 0) (eC (.int 3)) (eFn TMix (aCons (eOp gAdd (eOp gIx (eVar 0) (eC (.int 3))) (eC (.int 1))) aNil)))
    (sPut (eVar 0) (eC (.int 2)) (eOp gIx (eVar 0) (eC (.int 3)))))) sNil)
    (sCons (sSet 3 (eOp gMod (eFn gInt1 (aCons (eOp gIx (eVar 0) (eC (.int 2))) aNil)) (eVar 1)))
    (sCons (sPut (eVar 0) (eC (.int 2)) (eOp gDivW (eOp gIx (eVar 0) (eC (.int 2))) (eVar 1)))
    (sRet (eVar 3)))))
noncomputable def TTake : List W → Sto → Rz W := mkF 2 4 BTake
def mixM (n : Int) : Int := (n * 6364136223846793005 + 1442695040888963407) % 18446744073709551616
def mixI (n : Int) : Int := (mixM n * mixM n / 4294967296 + mixM n * 69621) % 18446744073709551557
theorem mix_ok {n : Int} {s : Sto} : TMix [.int n] s = some (.int (mixI n), s) := by
  have m1 : Mir.gMul (.int n) (.int 6364136223846793005) s = some (.int (n * 6364136223846793005), s) := mulR (by decide) (by decide)
  have m2 : gMod (.int (n * 6364136223846793005 + 1442695040888963407)) (.int 18446744073709551616) s = some (.int (mixM n), s) := modR (by decide)
  have h0 : 0 ≤ mixM n := Int.emod_nonneg _ (by decide)
  have h1 : mixM n < 18446744073709551616 := Int.emod_lt_of_pos _ (by decide)
  have m3 : Mir.gMul (.int (mixM n)) (.int (mixM n)) s = some (.int (mixM n * mixM n), s) := mulR (Int.lt_of_lt_of_le (by decide) h0) (by rw [show (2 : Int) ^ 64 = 18446744073709551616 by decide +kernel]; exact h1)
  have m4 : gDivW (.int (mixM n * mixM n)) (.int 4294967296) s = some (.int (mixM n * mixM n / 4294967296), s) := by
    have h : decide ((0 : Int) < 4294967296 ∧ (4294967296 : Int).natAbs.log2 < 9000) = true := by decide +kernel
    simp only [gIIc, h, if_true]
  have m5 : Mir.gMul (.int (mixM n)) (.int 69621) s = some (.int (mixM n * 69621), s) := mulR (by decide) (by decide)
  have m6 : gMod (.int (mixM n * mixM n / 4294967296 + mixM n * 69621)) (.int 18446744073709551557) s = some (.int (mixI n), s) := modR (by decide)
  unfold TMix BMix
  simp only [mkF, bd_some, bd_none, sCons, sNil, sSet, sAsg, sPar, sDo, sRet, sRetN, sIf, sPut, sAug, sBrk, sCnt, sFor, iSeq, iEnu, Mir.iRev, Mir.iRng1, Mir.iRng2, eVar, eC, eOp, eUn, eFn, eMt, aNil, aCons, eTup, eLst, eAnd, eOr, eNot, eIf, bTest, bTruth, bAnd, bOr, bNot, bYes, eSl, pNo, pAt, tgM_name, tgM_tup, tgMs_nil, tgMs_name, tgMs_tup, List.getElem?_cons_succ, List.getElem?_cons_zero, List.set_cons_succ, List.set_cons_zero, List.map_cons, List.map_nil, List.length_cons, List.length_nil, List.replicate, List.nil_append, List.cons_append, if_true, if_false, Bool.false_eq_true, Nat.reduceAdd, Nat.reduceSub, Nat.reduceLeDiff, Nat.zero_add, Bool.not_true, Bool.not_false, m1, addI, int1, m2, m3, m4, m5, m6]
structure Tape (s : Sto) (r rc : Nat) (cs : List Int) : Prop where
  tape : ∃ (a : Nat) (b c : Int) (w : W), s[r]? = some (.lst [.ref rc, .int (a : Int), .int b, .int c, w])
  cells : s[rc]? = some (.lst (cs.map W.int))
theorem Tape.ne {s : Sto} {r rc : Nat} {cs : List Int} (T : Tape s r rc cs) : rc ≠ r := fun h => by
  obtain ⟨a, b, c, w, e⟩ := T.tape
  have := T.cells
  rw [h, e] at this
  cases cs <;> simp at this



def tp (s : Sto) (r : Nat) (x0 x1 x2 x3 x4 : W) : Sto := s.set r (.lst [x0, x1, x2, x3, x4])
theorem tp_get {s : Sto} {r : Nat} {x0 x1 x2 x3 x4 : W} (h : r < s.length) : (tp s r x0 x1 x2 x3 x4)[r]? = some (.lst [x0, x1, x2, x3, x4]) := List.getElem?_set_self h
theorem tp_ne {s : Sto} {r i : Nat} {x0 x1 x2 x3 x4 : W} (h : i ≠ r) : (tp s r x0 x1 x2 x3 x4)[i]? = s[i]? := getne h
theorem s_tp {s : Sto} {r : Nat} {x0 x1 x2 x3 x4 : W} (e : s[r]? = some (.lst [x0, x1, x2, x3, x4])) : tp s r x0 x1 x2 x3 x4 = s := by
  apply List.ext_getElem?
  intro i
  by_cases h : i = r
  · subst h; rw [tp_get (List.getElem?_eq_some_iff.mp e).1, e]
  · exact tp_ne h
theorem take_core {s : Sto} {r rc : Nat} {cs : List Int} {m : Int} (h : r < s.length) (hne : rc ≠ r) (hrc : s[rc]? = some (.lst (cs.map W.int))) (h0 : 0 < m) (h1 : m < 4611686018427387904) (a : Nat) (b c : Int) (w : W) :
    ∃ (d : Int) (a' : Nat) (b' c' : Int), TTake [.ref r, .int m] (tp s r (.ref rc) (.int (a : Int)) (.int b) (.int c) w) = some (.int d, tp s r (.ref rc) (.int (a' : Int)) (.int b') (.int c') w) ∧ 0 ≤ d ∧ d < m := by
  have gi0 : ∀ x0 x1 x2 x3 x4 : W, gIx (.ref r) (.int 0) (tp s r x0 x1 x2 x3 x4) = some (x0, tp s r x0 x1 x2 x3 x4) := fun x0 x1 x2 x3 x4 => by simp only [gIx, seqOf, tp_get h]; rfl
  have gi1 : ∀ x0 x1 x2 x3 x4 : W, gIx (.ref r) (.int 1) (tp s r x0 x1 x2 x3 x4) = some (x1, tp s r x0 x1 x2 x3 x4) := fun x0 x1 x2 x3 x4 => by simp only [gIx, seqOf, tp_get h]; rfl
  have gi2 : ∀ x0 x1 x2 x3 x4 : W, gIx (.ref r) (.int 2) (tp s r x0 x1 x2 x3 x4) = some (x2, tp s r x0 x1 x2 x3 x4) := fun x0 x1 x2 x3 x4 => by simp only [gIx, seqOf, tp_get h]; rfl
  have gi3 : ∀ x0 x1 x2 x3 x4 : W, gIx (.ref r) (.int 3) (tp s r x0 x1 x2 x3 x4) = some (x3, tp s r x0 x1 x2 x3 x4) := fun x0 x1 x2 x3 x4 => by simp only [gIx, seqOf, tp_get h]; rfl
  have ix1 : ixN 5 1 = some 1 := by decide
  have ix2 : ixN 5 2 = some 2 := by decide
  have ix3 : ixN 5 3 = some 3 := by decide
  have st1 : ∀ x0 x1 x2 x3 x4 y : W, setAt (.ref r) (.int 1) y (tp s r x0 x1 x2 x3 x4) = some (tp s r x0 y x2 x3 x4) := fun x0 x1 x2 x3 x4 y => by
    simp only [setAt, tp_get h, List.length_cons, List.length_nil, Nat.zero_add, Nat.reduceAdd, ix1]
    simp only [tp, setset]
    rfl
  have st2 : ∀ x0 x1 x2 x3 x4 y : W, setAt (.ref r) (.int 2) y (tp s r x0 x1 x2 x3 x4) = some (tp s r x0 x1 y x3 x4) := fun x0 x1 x2 x3 x4 y => by
    simp only [setAt, tp_get h, List.length_cons, List.length_nil, Nat.zero_add, Nat.reduceAdd, ix2]
    simp only [tp, setset]
    rfl
  have st3 : ∀ x0 x1 x2 x3 x4 y : W, setAt (.ref r) (.int 3) y (tp s r x0 x1 x2 x3 x4) = some (tp s r x0 x1 x2 y x4) := fun x0 x1 x2 x3 x4 y => by
    simp only [setAt, tp_get h, List.length_cons, List.length_nil, Nat.zero_add, Nat.reduceAdd, ix3]
    simp only [tp, setset]
    rfl
  have gl : ∀ x0 x1 x2 x3 x4 : W, gLen [.ref rc] (tp s r x0 x1 x2 x3 x4) = some (.int (cs.length : Int), tp s r x0 x1 x2 x3 x4) := fun x0 x1 x2 x3 x4 => by simp [gLen, lenW, seqOf, tp_ne hne, hrc]
  have lo : ∀ x : Int, 0 ≤ x % m := fun x => Int.emod_nonneg _ (by omega)
  have hi : ∀ x : Int, x % m < m := fun x => Int.emod_lt_of_pos _ h0
  have ea : ((a : Int) + 1) = ((a + 1 : Nat) : Int) := by omega
  have e13 : ∀ s : Sto, gPow (.int 10) (.int 18) s = some (.int 1000000000000000000, s) := fun s => by
    have h : decide ((0 : Int) ≤ 18 ∧ (18 : Int) ≤ 1000000 ∧ (10 : Int).natAbs < 2 ^ 64) = true := by decide
    simp only [gIIc, h, if_true]
    rfl
  have neg2 : ∀ s : Sto, gNeg (.int 2) s = some (.int (-2), s) := fun s => rfl
  have mu2 : ∀ (x : Int) (s : Sto), Mir.gMul (.int 2) (.int x) s = some (.int (2 * x), s) := fun x s => by
    simp only [Mir.gMul]
    rw [if_pos (.inl ⟨by decide, by decide⟩)]
  have mun : ∀ (x : Int) (s : Sto), Mir.gMul (.int (-2)) (.int x) s = some (.int (-2 * x), s) := fun x s => by
    simp only [Mir.gMul]
    rw [if_pos (.inl ⟨by decide, by decide⟩)]
  unfold TTake BTake
  by_cases hb : b < m
  · have l1 : ∀ s, gLt (.int b) (.int m) s = some (.bl true, s) := fun s => by simp only [gII, decide_eq_true hb]
    by_cases ha : a < cs.length
    · have l2 : ∀ s, gLt (.int (a : Int)) (.int (cs.length : Int)) s = some (.bl true, s) := fun s => by simp only [gII, decide_eq_true (show (a : Int) < (cs.length : Int) by omega)]
      have gc : ∀ x0 x1 x2 x3 x4 : W, gIx (.ref rc) (.int (a : Int)) (tp s r x0 x1 x2 x3 x4) = some (.int cs[a], tp s r x0 x1 x2 x3 x4) := fun x0 x1 x2 x3 x4 => by
        have : (cs.map W.int)[a]? = some (.int cs[a]) := by simp [ha]
        simp only [gIx, seqOf, tp_ne hne, hrc, atI_nat this]
      have main : ∀ z : Int, (∀ s : Sto, bd (gGe (.int cs[a]) (.int 0) s) (fun x s1 => match x with
            | .bl k => some (k, s1)
            | _ => none) = some (decide (0 ≤ cs[a]), s)) → True := fun _ _ => trivial
      by_cases hz : 0 ≤ cs[a]
      · have g0 : ∀ s, gGe (.int cs[a]) (.int 0) s = some (.bl true, s) := fun s => by simp only [gII, decide_eq_true hz]
        by_cases hg : 1000000000000000000 ≤ 2 * cs[a]
        · have g1 : ∀ s, gGe (.int (2 * cs[a])) (.int 1000000000000000000) s = some (.bl true, s) := fun s => by simp only [gII, decide_eq_true hg]
          refine ⟨(2 * cs[a]) % m, a + 1, (2 * cs[a]) / m, mixI (c + 2 * cs[a]), ?_, lo _, hi _⟩
          simp only [mkF, bd_some, bd_none, sCons, sNil, sSet, sAsg, sPar, sDo, sRet, sRetN, sIf, sPut, sAug, sBrk, sCnt, sFor, iSeq, iEnu, Mir.iRev, Mir.iRng1, Mir.iRng2, eVar, eC, eOp, eUn, eFn, eMt, aNil, aCons, eTup, eLst, eAnd, eOr, eNot, eIf, bTest, bTruth, bAnd, bOr, bNot, bYes, eSl, pNo, pAt, tgM_name, tgM_tup, tgMs_nil, tgMs_name, tgMs_tup, List.getElem?_cons_succ, List.getElem?_cons_zero, List.set_cons_succ, List.set_cons_zero, List.map_cons, List.map_nil, List.length_cons, List.length_nil, List.replicate, List.nil_append, List.cons_append, if_true, if_false, Bool.false_eq_true, Nat.reduceAdd, Nat.reduceSub, Nat.reduceLeDiff, Nat.zero_add, Bool.not_true, Bool.not_false, gi0, gi1, gi2, gi3, l1, gl, l2, gc, g0, mu2, addI, ea, st1, st2, st3, mix_ok, e13, g1, int1, modR h0, divRW h0 h1]
        · have g1 : ∀ s, gGe (.int (2 * cs[a])) (.int 1000000000000000000) s = some (.bl false, s) := fun s => by simp only [gII, decide_eq_false hg]
          refine ⟨(mixI (mixI (2 * cs[a]))) % m, a + 1, (mixI (mixI (2 * cs[a]))) / m, mixI (c + 2 * cs[a]), ?_, lo _, hi _⟩
          simp only [mkF, bd_some, bd_none, sCons, sNil, sSet, sAsg, sPar, sDo, sRet, sRetN, sIf, sPut, sAug, sBrk, sCnt, sFor, iSeq, iEnu, Mir.iRev, Mir.iRng1, Mir.iRng2, eVar, eC, eOp, eUn, eFn, eMt, aNil, aCons, eTup, eLst, eAnd, eOr, eNot, eIf, bTest, bTruth, bAnd, bOr, bNot, bYes, eSl, pNo, pAt, tgM_name, tgM_tup, tgMs_nil, tgMs_name, tgMs_tup, List.getElem?_cons_succ, List.getElem?_cons_zero, List.set_cons_succ, List.set_cons_zero, List.map_cons, List.map_nil, List.length_cons, List.length_nil, List.replicate, List.nil_append, List.cons_append, if_true, if_false, Bool.false_eq_true, Nat.reduceAdd, Nat.reduceSub, Nat.reduceLeDiff, Nat.zero_add, Bool.not_true, Bool.not_false, gi0, gi1, gi2, gi3, l1, gl, l2, gc, g0, mu2, addI, ea, st1, st2, st3, mix_ok, e13, g1, int1, modR h0, divRW h0 h1]
      · have g0 : ∀ s, gGe (.int cs[a]) (.int 0) s = some (.bl false, s) := fun s => by simp only [gII, decide_eq_false hz]
        by_cases hg : 1000000000000000000 ≤ -2 * cs[a] - 1
        · have g1 : ∀ s, gGe (.int (-2 * cs[a] - 1)) (.int 1000000000000000000) s = some (.bl true, s) := fun s => by simp only [gII, decide_eq_true hg]
          refine ⟨(-2 * cs[a] - 1) % m, a + 1, (-2 * cs[a] - 1) / m, mixI (c + (-2 * cs[a] - 1)), ?_, lo _, hi _⟩
          simp only [mkF, bd_some, bd_none, sCons, sNil, sSet, sAsg, sPar, sDo, sRet, sRetN, sIf, sPut, sAug, sBrk, sCnt, sFor, iSeq, iEnu, Mir.iRev, Mir.iRng1, Mir.iRng2, eVar, eC, eOp, eUn, eFn, eMt, aNil, aCons, eTup, eLst, eAnd, eOr, eNot, eIf, bTest, bTruth, bAnd, bOr, bNot, bYes, eSl, pNo, pAt, tgM_name, tgM_tup, tgMs_nil, tgMs_name, tgMs_tup, List.getElem?_cons_succ, List.getElem?_cons_zero, List.set_cons_succ, List.set_cons_zero, List.map_cons, List.map_nil, List.length_cons, List.length_nil, List.replicate, List.nil_append, List.cons_append, if_true, if_false, Bool.false_eq_true, Nat.reduceAdd, Nat.reduceSub, Nat.reduceLeDiff, Nat.zero_add, Bool.not_true, Bool.not_false, gi0, gi1, gi2, gi3, l1, gl, l2, gc, g0, neg2, mun, subI, addI, ea, st1, st2, st3, mix_ok, e13, g1, int1, modR h0, divRW h0 h1]
        · have g1 : ∀ s, gGe (.int (-2 * cs[a] - 1)) (.int 1000000000000000000) s = some (.bl false, s) := fun s => by simp only [gII, decide_eq_false hg]
          refine ⟨(mixI (mixI (-2 * cs[a] - 1))) % m, a + 1, (mixI (mixI (-2 * cs[a] - 1))) / m, mixI (c + (-2 * cs[a] - 1)), ?_, lo _, hi _⟩
          simp only [mkF, bd_some, bd_none, sCons, sNil, sSet, sAsg, sPar, sDo, sRet, sRetN, sIf, sPut, sAug, sBrk, sCnt, sFor, iSeq, iEnu, Mir.iRev, Mir.iRng1, Mir.iRng2, eVar, eC, eOp, eUn, eFn, eMt, aNil, aCons, eTup, eLst, eAnd, eOr, eNot, eIf, bTest, bTruth, bAnd, bOr, bNot, bYes, eSl, pNo, pAt, tgM_name, tgM_tup, tgMs_nil, tgMs_name, tgMs_tup, List.getElem?_cons_succ, List.getElem?_cons_zero, List.set_cons_succ, List.set_cons_zero, List.map_cons, List.map_nil, List.length_cons, List.length_nil, List.replicate, List.nil_append, List.cons_append, if_true, if_false, Bool.false_eq_true, Nat.reduceAdd, Nat.reduceSub, Nat.reduceLeDiff, Nat.zero_add, Bool.not_true, Bool.not_false, gi0, gi1, gi2, gi3, l1, gl, l2, gc, g0, neg2, mun, subI, addI, ea, st1, st2, st3, mix_ok, e13, g1, int1, modR h0, divRW h0 h1]
    · have l2 : ∀ s, gLt (.int (a : Int)) (.int (cs.length : Int)) s = some (.bl false, s) := fun s => by simp only [gII, decide_eq_false (show ¬ (a : Int) < (cs.length : Int) by omega)]
      refine ⟨mixI (c + 1) % m, a, mixI (c + 1) / m, mixI (c + 1), ?_, lo _, hi _⟩
      simp only [mkF, bd_some, bd_none, sCons, sNil, sSet, sAsg, sPar, sDo, sRet, sRetN, sIf, sPut, sAug, sBrk, sCnt, sFor, iSeq, iEnu, Mir.iRev, Mir.iRng1, Mir.iRng2, eVar, eC, eOp, eUn, eFn, eMt, aNil, aCons, eTup, eLst, eAnd, eOr, eNot, eIf, bTest, bTruth, bAnd, bOr, bNot, bYes, eSl, pNo, pAt, tgM_name, tgM_tup, tgMs_nil, tgMs_name, tgMs_tup, List.getElem?_cons_succ, List.getElem?_cons_zero, List.set_cons_succ, List.set_cons_zero, List.map_cons, List.map_nil, List.length_cons, List.length_nil, List.replicate, List.nil_append, List.cons_append, if_true, if_false, Bool.false_eq_true, Nat.reduceAdd, Nat.reduceSub, Nat.reduceLeDiff, Nat.zero_add, Bool.not_true, Bool.not_false, gi0, gi1, gi2, gi3, l1, gl, l2, addI, st1, st2, st3, mix_ok, int1, modR h0, divRW h0 h1]
  · have l1 : ∀ s, gLt (.int b) (.int m) s = some (.bl false, s) := fun s => by simp only [gII, decide_eq_false hb]
    refine ⟨b % m, a, b / m, c, ?_, lo _, hi _⟩
    simp only [mkF, bd_some, bd_none, sCons, sNil, sSet, sAsg, sPar, sDo, sRet, sRetN, sIf, sPut, sAug, sBrk, sCnt, sFor, iSeq, iEnu, Mir.iRev, Mir.iRng1, Mir.iRng2, eVar, eC, eOp, eUn, eFn, eMt, aNil, aCons, eTup, eLst, eAnd, eOr, eNot, eIf, bTest, bTruth, bAnd, bOr, bNot, bYes, eSl, pNo, pAt, tgM_name, tgM_tup, tgMs_nil, tgMs_name, tgMs_tup, List.getElem?_cons_succ, List.getElem?_cons_zero, List.set_cons_succ, List.set_cons_zero, List.map_cons, List.map_nil, List.length_cons, List.length_nil, List.replicate, List.nil_append, List.cons_append, if_true, if_false, Bool.false_eq_true, Nat.reduceAdd, Nat.reduceSub, Nat.reduceLeDiff, Nat.zero_add, Bool.not_true, Bool.not_false, gi0, gi1, gi2, gi3, l1, st2, int1, modR h0, divRW h0 h1]

theorem Tape.fr {s s' : Sto} {r rc : Nat} {cs : List Int} {L : List Nat} (T : Tape s r rc cs) (h : Fr L s s') (h1 : r ∉ L) (h2 : rc ∉ L) : Tape s' r rc cs := by
  obtain ⟨a, b, c, w, e⟩ := T.tape
  exact ⟨⟨a, b, c, w, h.at_ _ _ h1 e⟩, h.at_ _ _ h2 T.cells⟩
theorem Tape.app {s : Sto} {r rc : Nat} {cs : List Int} (T : Tape s r rc cs) (t : Sto) : Tape (s ++ t) r rc cs := by
  obtain ⟨a, b, c, w, e⟩ := T.tape
  exact ⟨⟨a, b, c, w, gapp e⟩, gapp T.cells⟩
theorem Tape.lt {s : Sto} {r rc : Nat} {cs : List Int} (T : Tape s r rc cs) : r < s.length ∧ rc < s.length := by
  obtain ⟨a, b, c, w, e⟩ := T.tape
  exact ⟨gltn e, gltn T.cells⟩
theorem take_ok {s : Sto} {r rc : Nat} {cs : List Int} (T : Tape s r rc cs) (m : Int) (h0 : 0 < m) (h1 : m < 4611686018427387904) :
    ∃ (d : Int) (s' : Sto), TTake [.ref r, .int m] s = some (.int d, s') ∧ 0 ≤ d ∧ d < m ∧ Tape s' r rc cs ∧ Fr [r] s s' ∧ s'.length = s.length := by
  obtain ⟨a, b, c, w, e⟩ := T.tape
  have hl := (List.getElem?_eq_some_iff.mp e).1
  obtain ⟨d, a', b', c', e1, d0, d1⟩ := take_core hl T.ne T.cells h0 h1 a b c w
  rw [s_tp e] at e1
  exact ⟨d, _, e1, d0, d1, ⟨⟨a', b', c', w, tp_get hl⟩, by rw [tp_ne T.ne]; exact T.cells⟩, ⟨by simp [tp], fun i o hi eo => by rw [tp_ne (fun z => hi (by rw [z]; exact List.mem_singleton_self _))]; exact eo⟩, by simp [tp]⟩
noncomputable def BTape : FS := (sRet (eLst (aCons (eFn gList (aCons (eVar 0) aNil)) (aCons (eC (.int 0)) (aCons (eC (.int 0)) (aCons (eC (.int 1)) (aCons (eVar 1) aNil)))))))
noncomputable def TTape : List W → Sto → Rz W := mkF 2 2 BTape
end Mir

set_option Elab.async false
set_option linter.all false
set_option maxRecDepth 100000
namespace Mir
open PySem PySem.Spec PyProof.Rows L2
def PlW (n : Nat) (w : W) : Prop := ∃ d, pyW w = some d ∧ d.canLay0 = true ∧ d.depth ≤ n
def PlWs (n : Nat) (ws : List W) : Prop := ∃ ds, pyWs ws = some ds ∧ PyData.canLayAll0 ds = true ∧ PyData.depthAll ds ≤ n
theorem PlW.non {n : Nat} : PlW (n + 1) .non := ⟨.none, by rw [pyW], by rw [PyData.canLay0], by rw [PyData.depth]; omega⟩
theorem PlW.bl {n : Nat} {b : Bool} : PlW (n + 1) (.bl b) := ⟨.bool b, by rw [pyW], by rw [PyData.canLay0], by rw [PyData.depth]; omega⟩
theorem PlW.int {n : Nat} {i : Int} : PlW (n + 1) (.int i) := ⟨.int i, by rw [pyW], by rw [PyData.canLay0], by rw [PyData.depth]; omega⟩
theorem PlW.str {n : Nat} {z : Str} (h : PyData.strOk z = true) : PlW (n + 1) (.str z) := ⟨.str z, by rw [pyW], by rw [PyData.canLay0]; exact h, by rw [PyData.depth]; omega⟩
theorem PlWs.nil {n : Nat} : PlWs n [] := ⟨[], by rw [pyWs], by rw [PyData.canLayAll0], by rw [PyData.depthAll]; omega⟩
theorem PlWs.cons {n : Nat} {w : W} {ws : List W} (h : PlW n w) (q : PlWs n ws) : PlWs n (w :: ws) := by
  obtain ⟨d, h1, h2, h3⟩ := h
  obtain ⟨ds, q1, q2, q3⟩ := q
  exact ⟨d :: ds, by rw [pyWs, h1, q1], by rw [PyData.canLayAll0, h2, q2]; rfl, by rw [PyData.depthAll]; omega⟩
theorem PlW.tup {n : Nat} {ws : List W} (h : PlWs n ws) : PlW (n + 1) (.tup ws) := by
  obtain ⟨ds, h1, h2, h3⟩ := h
  exact ⟨.tuple ds, by rw [pyW, h1]; rfl, by rw [PyData.canLay0]; exact h2, by rw [PyData.depth]; omega⟩
theorem PlW.lro {n : Nat} {ws : List W} (h : PlWs n ws) : PlW (n + 1) (.lro ws) := by
  obtain ⟨ds, h1, h2, h3⟩ := h
  exact ⟨.list ds, by rw [pyW, h1]; rfl, by rw [PyData.canLay0]; exact h2, by rw [PyData.depth]; omega⟩
theorem PlWs.of {n : Nat} : ∀ {ws : List W}, (∀ w ∈ ws, PlW n w) → PlWs n ws
  | [], _ => .nil
  | w :: ws, h => .cons (h w List.mem_cons_self) (.of fun x hx => h x (List.mem_cons_of_mem _ hx))
theorem PlW.mono {n m : Nat} {w : W} (h : PlW n w) (q : n ≤ m) : PlW m w := by
  obtain ⟨d, h1, h2, h3⟩ := h
  exact ⟨d, h1, h2, by omega⟩
theorem PlWs.mono {n m : Nat} {w : List W} (h : PlWs n w) (q : n ≤ m) : PlWs m w := by
  obtain ⟨d, h1, h2, h3⟩ := h
  exact ⟨d, h1, h2, by omega⟩
theorem eqSame {w : W} {s : Sto} (h : PlW 64 w) : gEq w w s = some (.bl true, s) := by
  obtain ⟨d, h1, h2, h3⟩ := h
  have sh : SeqAt.shaped d = true := by simp only [SeqAt.shaped, h2, Bool.true_and, decide_eq_true h3]
  have he := SeqAt.eqv_refl d h2
  have key : eqW s w w = some true := by
    unfold eqW
    cases e : sEq w w with
    | some b => cases w <;> simp_all [sEq]
    | none =>
      have p : pyS s 3 w = some d := by cases w <;> first | exact h1 | (rw [pyW] at h1; cases h1)
      simp only [datEq, p, sh, and_self, if_true, he]
  simp only [gEq, key]
theorem neSm {w : W} {s : Sto} (h : PlW 64 w) : gNe w w s = some (.bl false, s) := by
  have e := eqSame (s := s) h
  unfold gEq at e
  unfold gNe
  cases q : eqW s w w with
  | none => rw [q] at e; cases e
  | some b => rw [q] at e; cases e; rfl
end Mir

set_option Elab.async false
set_option linter.all false
set_option maxRecDepth 100000
namespace Mir
open PySem PySem.Spec PyProof.Rows L2
section
variable {t : FT} {f : FS} {n : Nat} {ρ : EnvM} {s : Sto} {Q : Out → Sto → Prop}
def QW (t : FT) (f : FS) (n : Nat) (Q : Out → Sto → Prop) : Out → Sto → Prop := fun o s => match o with
  | .nx ρ => Wp (wh t f n ρ s) Q
  | .ct ρ => Wp (wh t f n ρ s) Q
  | .bk ρ => Q (.nx ρ) s
  | .rt w => Q (.rt w) s
theorem qw_nx : QW t f n Q (.nx ρ) s = Wp (wh t f n ρ s) Q := rfl
theorem qw_ct : QW t f n Q (.ct ρ) s = Wp (wh t f n ρ s) Q := rfl
theorem qw_bk : QW t f n Q (.bk ρ) s = Q (.nx ρ) s := rfl
theorem qw_rt {w : W} : QW t f n Q (.rt w) s = Q (.rt w) s := rfl
theorem wh_go (h : Wp (t ρ s) (fun k s1 => if k = true then WpS [f] ρ s1 (QW t f n Q) else Q (.nx ρ) s1)) : Wp (wh t f (n + 1) ρ s) Q := by
  rw [wh, wp_bd]
  refine h.mono fun k s1 q => ?_
  cases k with
  | false => simp only [Bool.false_eq_true, if_false, wp_some] at q ⊢; exact q
  | true =>
    simp only [if_true, wp_bd] at q ⊢
    rw [wps_one] at q
    refine q.mono fun o s2 q => ?_
    cases o with
    | nx ρ2 => exact q
    | ct ρ2 => exact q
    | bk ρ2 => simp only [wp_some]; exact q
    | rt w => simp only [wp_some]; exact q
def QF (t : Tg) (f : FS) (c : Option (Nat × List W)) (xs : List W) (Q : Out → Sto → Prop) : Out → Sto → Prop := fun o s => match o with
  | .nx ρ => Wp (fo t f c xs ρ s) Q
  | .ct ρ => Wp (fo t f c xs ρ s) Q
  | .bk ρ => Q (.nx ρ) s
  | .rt w => Q (.rt w) s
variable {tg : Tg} {c : Option (Nat × List W)} {x : W} {xs : List W}
theorem qf_nx : QF tg f c xs Q (.nx ρ) s = Wp (fo tg f c xs ρ s) Q := rfl
theorem qf_ct : QF tg f c xs Q (.ct ρ) s = Wp (fo tg f c xs ρ s) Q := rfl
theorem qf_bk : QF tg f c xs Q (.bk ρ) s = Q (.nx ρ) s := rfl
theorem qf_rt {w : W} : QF tg f c xs Q (.rt w) s = Q (.rt w) s := rfl
theorem fo_goN (h : okc c s ∧ Q (.nx ρ) s) : Wp (fo tg f c [] ρ s) Q := by
  rw [fo, if_pos h.1, wp_some]; exact h.2
theorem fo_goC (h : okc c s ∧ match tgM tg x ρ with | some ρ1 => WpS [f] ρ1 s (QF tg f c xs Q) | none => False) : Wp (fo tg f c (x :: xs) ρ s) Q := by
  obtain ⟨h1, h2⟩ := h
  rw [fo, if_pos h1]
  cases e : tgM tg x ρ with
  | none => rw [e] at h2; exact h2.elim
  | some ρ1 =>
    rw [e] at h2
    simp only [wp_bd] at h2 ⊢
    rw [wps_one] at h2
    refine h2.mono fun o s2 q => ?_
    cases o with
    | nx ρ2 => exact q
    | ct ρ2 => exact q
    | bk ρ2 => simp only [wp_some]; exact q
    | rt w => simp only [wp_some]; exact q
theorem okN : okc none s = True := rfl
theorem okR {n : Nat} {ws : List W} (h : s[n]? = some (.lst ws)) : okc (some (n, ws)) s = True := eq_true h
theorem lcf_goN {t : Tg} {u : FT} {f : FE} {R : List W → Sto → Prop} (h : okc c s) : Wp (lcf t u f c ρ [] s) R = R [] s := by rw [lcf, if_pos h, wp_some]
theorem lcf_goC {i : Nat} {f : FE} {R : List W → Sto → Prop} (h : okc c s) : Wp (lcf (.name i) bYes f c ρ (x :: xs) s) R = Wp (f (ρ.set i (some x)) s) (fun w s2 => Wp (lcf (.name i) bYes f c ρ xs s2) (fun ws s3 => R (w :: ws) s3)) := by
  rw [lcf, if_pos h]
  simp only [tgM_name, bYes, bd_some, if_true, wp_bd, wp_some]
theorem lcf_goT {ts : List Tg} {u : FT} {f : FE} {R : List W → Sto → Prop} (h : okc c s) : Wp (lcf (.tup ts) bYes f c ρ (x :: xs) s) R = match tgM (.tup ts) x ρ with
    | some ρ1 => Wp (f ρ1 s) (fun w s2 => Wp (lcf (.tup ts) bYes f c ρ xs s2) (fun ws s3 => R (w :: ws) s3))
    | none => False := by
  rw [lcf, if_pos h]
  cases tgM (.tup ts) x ρ with
  | none => simp only [wp_none]
  | some ρ1 => simp only [bYes, bd_some, if_true, wp_bd, wp_some]
theorem slT1 {ws : List W} {p : Nat} {s : Sto} : gSlA (.tup ws) none (some (p : Int)) s = some (.tup (ws.take p), s) := by
  have k0 : HT.sIx ws.length 0 none = 0 := rfl
  simp only [gSlA, HT.sIx_nat, k0, List.drop_zero, Nat.sub_zero]
  rcases Nat.le_total p ws.length with h | h
  · rw [Nat.min_eq_left h]
  · rw [Nat.min_eq_right h, List.take_length, List.take_of_length_le h]
theorem slT2 {ws : List W} {p : Nat} {s : Sto} : gSlA (.tup ws) (some (p : Int)) none s = some (.tup (ws.drop p), s) := by
  have k0 : HT.sIx ws.length ws.length none = ws.length := rfl
  simp only [gSlA, HT.sIx_nat, k0]
  rcases Nat.le_total p ws.length with h | h
  · rw [Nat.min_eq_left h, List.take_of_length_le (by rw [List.length_drop]; omega)]
  · rw [Nat.min_eq_right h, List.drop_length, List.drop_of_length_le h, List.take_nil]
theorem sl4 {a b c d : W} {ws : List W} {s : Sto} : gSlA (.tup (a :: b :: c :: d :: ws)) (some 4) none s = some (.tup ws, s) := slT2 (p := 4)
theorem sl1 {a : W} {ws : List W} {s : Sto} : gSlA (.tup (a :: ws)) (some 1) none s = some (.tup ws, s) := slT2 (p := 1)
end
end Mir

set_option Elab.async false
set_option linter.all false
set_option maxRecDepth 100000
set_option maxHeartbeats 1000000
namespace Vz
open PySem
open PySem.Sem (wp)
abbrev ZipB (h : Heap) (z TI TO T : Addr) (f : Bool) : Prop :=
  h.get? z = some { cls := .type "zip", dict := none, data := .fields #[rawInt T, .bool f, .bool false, .ref TI, .ref TO], slots := #[] }
section
variable {prog : Program} {w : World} {A : Around} {E : Value → Shared → Prop} {s : Shared}
end
end Vz

set_option Elab.async false
set_option linter.all false
set_option maxRecDepth 100000
set_option maxHeartbeats 1000000
namespace Vz
open PySem PySem.Spec PyProof.Rows L2
def ZS (z TI TO i1 i2 a b S : Addr) (i : Nat) (h : Heap) : Prop :=
  ((IsZip h z TI TO .none ∧ ∃ x y, IsPair h TO x y) ∨ ∃ T f oT, ZipB h z TI TO T f ∧ h.get? T = some oT ∧ T ∉ [z, TI, TO, i1, i2] ∧ T ≠ S) ∧ IsPair h TI (.ref i1) (.ref i2) ∧ h.IsTupleIter i1 a i ∧ h.IsTupleIter i2 b i ∧ ∃ oO, h.get? TO = some oO
theorem ZS.keep {z TI TO i1 i2 a b S : Addr} {i : Nat} {h h' : Heap} (st : ZS z TI TO i1 i2 a b S i h) (hS : S ∉ [z, TI, TO, i1, i2]) (k : ∀ c o, c ≠ S → h.get? c = some o → h'.get? c = some o) : ZS z TI TO i1 i2 a b S i h' := by
  obtain ⟨e, hTI, h1, h2, oO, hO⟩ := st
  have n : ∀ c, c ∈ [z, TI, TO, i1, i2] → c ≠ S := fun c hc q => hS (q ▸ hc)
  refine ⟨?_, k _ _ (n _ (by simp)) hTI, h1.at fun o q => k _ o (n _ (by simp)) q, h2.at fun o q => k _ o (n _ (by simp)) q, oO, k _ _ (n _ (by simp)) hO⟩
  rcases e with ⟨hz, x, y, hTO⟩ | ⟨T, f, oT, hz, hT, n1, n2⟩
  · exact .inl ⟨k _ _ (n _ (by simp)) hz, x, y, k _ _ (n _ (by simp)) hTO⟩
  · exact .inr ⟨T, f, oT, k _ _ (n _ (by simp)) hz, k _ _ n2 hT, n1, n2⟩
section
variable {prog : Program} {w : World} {A : Around} {E : Value → Shared → Prop} {s : Shared}
end
structure Prs (G : Hp) (xs ys ts : List V) : Prop where
  x : ts.length ≤ xs.length
  y : ts.length ≤ ys.length
  at_ : ∀ (j : Nat) (v : V), ts[j]? = some v → ∃ (T : Addr) (p q : V), v = V.ref T ∧ xs[j]? = some p ∧ ys[j]? = some q ∧ G T = some (.tup [p, q])
theorem Prs.app {G : Hp} {xs ys ts : List V} {p q : V} {T : Addr} (P : Prs G xs ys ts) (hx : xs[ts.length]? = some p) (hy : ys[ts.length]? = some q) (hT : G T = none) : Prs (upd G T (.tup [p, q])) xs ys (ts ++ [.ref T]) := by
  refine ⟨?_, ?_, fun j v e => ?_⟩
  · rw [List.length_append, List.length_singleton]
    have := (List.getElem?_eq_some_iff.mp hx).1
    omega
  · rw [List.length_append, List.length_singleton]
    have := (List.getElem?_eq_some_iff.mp hy).1
    omega
  · rcases Nat.lt_trichotomy j ts.length with h | h | h
    · rw [List.getElem?_append_left h] at e
      obtain ⟨T', p', q', e1, e2, e3, e4⟩ := P.at_ j v e
      exact ⟨T', p', q', e1, e2, e3, by rw [upd_ne (ne_of_none e4 hT)]; exact e4⟩
    · subst h
      have : v = .ref T := by simpa using e.symm
      exact ⟨T, p, q, this, hx, hy, upd_same⟩
    · rw [List.getElem?_eq_none (by rw [List.length_append, List.length_singleton]; omega)] at e
      cases e
section
variable {X : Cx} {pins : List (Addr × Obj)} {σ : L2.St}
end
end Vz

set_option Elab.async false
set_option linter.all false
set_option maxRecDepth 100000
set_option maxHeartbeats 1000000
namespace Vz
open PySem PySem.Spec PyProof.Rows L2
section
variable {X : Cx} {pins : List (Addr × Obj)} {σ : L2.St} {H : Hp} {s : Shared}
def tLz (K : PySem.W.Frag) (ta : TA) : TE := fun σ H Q => ta σ H fun vs H1 => ∃ a b xs ys, vs = [V.ref a, V.ref b] ∧ SqT K H1 a xs ∧ SqT K H1 b ys ∧
  ∀ (p : Addr) (ts : List V) (G : Hp), H1 p = none → (∀ c o, H1 c = some o → G c = some o) → G p = none → Prs G xs ys ts → (xs.length ≤ ts.length ∨ ys.length ≤ ts.length) → Q (V.ref p) (upd G p (.lst ts))
end
section
variable {X : Cx}
end
end Vz

set_option Elab.async false
set_option linter.all false
set_option maxRecDepth 100000
namespace Mir
open PySem PySem.Spec PyProof.Rows L2
theorem Adv.grow {m : List Addr} {H G : Hp} (h : ∀ c o, H c = some o → G c = some o) : Adv m H m G := ⟨⟨[], by simp⟩, fun a o e _ => h a o e, fun _ e => .inl e, fun a xs e => h a _ e, fun a o u e => h a _ e⟩
theorem SR.grow {K : PySem.W.Frag} {m : List Addr} {H G : Hp} {s : Sto} (S : SR K m H s) (h : ∀ c o, H c = some o → G c = some o) : SR K m G s :=
  ⟨S.len, S.nd, fun n a u h1 h2 => by
    refine (S.ok n a u h1 h2).adv (Adv.grow h) ?_
    obtain ⟨u', e, _⟩ := S.there (List.mem_of_getElem? h1)
    rw [e]
    exact h _ _ e⟩
def eLz (f g : FE) : FE := fun ρ s => bd (f ρ s) fun x s1 => bd (g ρ s1) fun y s2 => match x, y with
  | .tup ws, .tup us => some (.ref s2.length, s2 ++ [.lst (zipW ws us)])
  | _, _ => none
section
variable {X : Cx}
end
end Mir

set_option Elab.async false
set_option linter.all false
set_option maxRecDepth 100000
set_option maxHeartbeats 1000000
namespace Vz
open PySem PySem.Spec PyProof.Rows L2
section
variable {X : Cx} {pins : List (Addr × Obj)} {σ : L2.St} {H : Hp} {s : Shared}
def tTz (K : PySem.W.Frag) (ta : TA) : TE := fun σ H Q => ta σ H fun vs H1 => ∃ a b xs ys, vs = [V.ref a, V.ref b] ∧ SqT K H1 a xs ∧ SqT K H1 b ys ∧
  ∀ (S p : Addr) (ts : List V) (G : Hp), H1 S = none → (∀ c o, H1 c = some o → G c = some o) → G S = none → Prs G xs ys ts → (xs.length ≤ ts.length ∨ ys.length ≤ ts.length) → upd G S (.lst ts) p = none → Q (V.ref p) (upd (upd G S (.lst ts)) p (.tup ts))
end
section
variable {X : Cx}
end
end Vz

set_option Elab.async false
set_option linter.all false
set_option maxRecDepth 100000
namespace Mir
open PySem PySem.Spec PyProof.Rows L2
def eTz (f g : FE) : FE := fun ρ s => bd (f ρ s) fun x s1 => bd (g ρ s1) fun y s2 => match x, y with
  | .tup ws, .tup us => some (.tup (zipW ws us), s2)
  | _, _ => none
section
variable {X : Cx}
end
end Mir

set_option Elab.async false
set_option linter.all false
set_option maxRecDepth 100000
namespace Mir
open PySem PySem.Spec PyProof.Rows L2
section
variable {X : Cx}
abbrev rRangeA : List V → Hp → VK → Prop := fun vs H Q => ∃ j, vs = [V.int j] ∧ ∀ p, H p = none → Q (.ref p) (upd H p (.rng 0 j))
abbrev rRangeB : List V → Hp → VK → Prop := fun vs H Q => ∃ i j, vs = [V.int i, V.int j] ∧ ∀ p, H p = none → Q (.ref p) (upd H p (.rng i j))
abbrev rInRng (neg : Bool) : R2 := fun x y H Q => ∃ i a lo hi, x = V.int i ∧ y = V.ref a ∧ H a = some (.rng lo hi) ∧ Q (.bl (if neg then !decide (lo ≤ i ∧ i < hi) else decide (lo ≤ i ∧ i < hi))) H
def eRinA (neg : Bool) (f : FE) (fa : FA) : FE := fun ρ s => bd (f ρ s) fun x s1 => bd (fa ρ s1) fun ws s2 => match x, ws with
  | .int i, [.int hi] => some (.bl (if neg then !decide (0 ≤ i ∧ i < hi) else decide (0 ≤ i ∧ i < hi)), s2)
  | _, _ => none
def eRinB (neg : Bool) (f : FE) (fa : FA) : FE := fun ρ s => bd (f ρ s) fun x s1 => bd (fa ρ s1) fun ws s2 => match x, ws with
  | .int i, [.int lo, .int hi] => some (.bl (if neg then !decide (lo ≤ i ∧ i < hi) else decide (lo ≤ i ∧ i < hi)), s2)
  | _, _ => none
section
variable {a e1 e2 : Expr} {f : FE} {fa : FA} {p p2 : Pos}
end
end
end Mir

set_option Elab.async false
set_option linter.all false
set_option maxRecDepth 100000
namespace Mir
open PySem PySem.Spec PyProof.Rows L2
def CDivX (_ j : Int) : Prop := j ≠ 0 ∧ j.natAbs.log2 < 9000
abbrev gDivX := gIIc (fun _ j => decide (j ≠ 0 ∧ j.natAbs.log2 < 9000)) fun i j => .int (i.fdiv j)
end Mir

set_option Elab.async false
set_option linter.all false
set_option maxRecDepth 100000
namespace Mir
open PySem PySem.Spec PyProof.Rows L2
def sAsgL (ts : List Tg) (f : FE) : FS := fun ρ s => bd (f ρ s) fun w s1 => match lstOf w s1 with
  | some ws => match tgMs ts ws ρ with
    | some ρ1 => some (.nx ρ1, s1)
    | none => none
  | none => none
section
variable {X : Cx} {e : Expr} {pos : Pos}
theorem wps_asgL {ts : List Tg} {f : FE} {fs : List FS} {ρ : EnvM} {s : Sto} {Q : Out → Sto → Prop} (h : Wp (f ρ s) fun w s1 => ∃ ws ρ1, lstOf w s1 = some ws ∧ tgMs ts ws ρ = some ρ1 ∧ WpS fs ρ1 s1 Q) : WpS (sAsgL ts f :: fs) ρ s Q := by
  rw [wps_cut]; unfold sAsgL; rw [wp_bd]
  refine h.mono fun w s1 ⟨ws, ρ1, h1, h2, h3⟩ => ?_
  simp only [h1, h2, wp_some]
  exact h3
end
end Mir

set_option Elab.async false
set_option linter.all false
set_option maxRecDepth 100000
namespace Mir
open PySem PySem.Spec PyProof.Rows L2
def eD1 (fk fv : FE) : FE := fun ρ s => bd (fk ρ (s ++ [.dct []])) fun z s2 => bd (fv ρ s2) fun w s3 => match keyW z, s3[s.length]? with
  | some k, some (.dct []) => some (.ref s.length, s3.set s.length (.dct [(k, w)]))
  | _, _ => none
section
variable {X : Cx}
end
end Mir

set_option Elab.async false
set_option linter.all false
set_option maxRecDepth 100000
namespace Mir
open PySem PySem.Spec PyProof.Rows L2
theorem Ext.offK {m : List Addr} {H : Hp} {D : Addr} {xs : List (Key × V)} {o : HO} (h : H D = some (.dK xs)) : Ext m H m (upd H D o) :=
  ⟨⟨[], by simp⟩, fun a ys e => by rw [upd_ne (ne_of e h (fun z => by cases z))]; exact e, fun a u y e => by rw [upd_ne (ne_of e h (fun z => by cases z))]; exact e⟩
theorem SR.offK {K : PySem.W.Frag} {m : List Addr} {H : Hp} {st : Sto} (S : SR K m H st) {D : Addr} {xs : List (Key × V)} {o : HO} (hD : D ∉ m) (h : H D = some (.dK xs)) : SR K m (upd H D o) st :=
  ⟨S.len, S.nd, fun n a u h1 h2 => (S.ok n a u h1 h2).ext (Ext.offK h) (upd_ne fun z => hD (by rw [← z]; exact List.mem_of_getElem? h1))⟩
open Classical in
noncomputable def dcf (t : Tg) (u : FT) (fk fv : FE) (c : Option (Nat × List W)) (ρ : EnvM) : List W → List (Key × W) → Sto → Rz (List (Key × W))
  | [], acc, s => if okc c s then some (acc, s) else none
  | x :: r, acc, s => if okc c s then match tgM t x ρ with
      | some ρ1 => bd (u ρ1 s) fun k s1 => if k = true then bd (fk ρ1 s1) fun y s2 => bd (fv ρ1 s2) fun w s3 => match keyW y with
          | some k => dcf t u fk fv c ρ r (put acc k w) s3
          | none => none
        else dcf t u fk fv c ρ r acc s1
      | none => none
    else none
noncomputable def eDc (vs : List Nat) (it : FI) (t : Tg) (u : FT) (fk fv : FE) : FE := fun ρ s => bd (it ρ s) fun x s1 => if x.1.length ≤ 100000 then bd (dcf t u fk fv x.2 (wipeM ρ vs) x.1 [] s1) fun kvs s2 => some (.ref s2.length, s2 ++ [.dct kvs]) else none
section
variable {X : Cx} {pos : Pos}
end
end Mir

set_option Elab.async false
set_option linter.all false
set_option maxRecDepth 100000
namespace Mir
open PySem PySem.Spec PyProof.Rows L2
def kW : Key → W
  | .inl i => .int i
  | .inr z => .str z
theorem kW_R {K : PySem.W.Frag} {m : List Addr} {H : Hp} (k : Key) : R K m H (kW k) (kV k) := by
  cases k with
  | inl i => exact .int i
  | inr z => exact .str z
def mgS (kvs1 : List (Key × W)) (acc : List (Key × W)) (k : Key) : List (Key × W) := match look acc k with
  | some _ => acc
  | none => match look kvs1 k with
    | some w => put acc k w
    | none => acc
def mgW (kvs1 kvs2 : List (Key × W)) (i : Nat) : List (Key × W) := (kvs1.take i).foldl (fun acc kv => mgS kvs1 acc kv.1) kvs2
def lastE (kvs1 : List (Key × W)) (lk : Nat) (ρ : EnvM) : Nat → EnvM
  | 0 => ρ
  | i + 1 => match kvs1[i]? with
    | some (k, _) => ρ.set lk (some (kW k))
    | none => ρ
def sDm (lk l1 l2 : Nat) : FS := fun ρ s => match ρ[l1]?, ρ[l2]? with
  | some (some x), some (some y) => match dcOf x s, dcOf y s with
    | some (n1, kvs1), some (n2, kvs2) => if n1 ≠ n2 ∧ kvs1.length + kvs2.length ≤ 100000 ∧ lk ≠ l1 ∧ lk ≠ l2 ∧ lk < ρ.length then some (.nx (lastE kvs1 lk ρ kvs1.length), s.set n2 (.dct (mgW kvs1 kvs2 kvs1.length))) else none
    | _, _ => none
  | _, _ => none
section
variable {K : PySem.W.Frag} {m : List Addr} {H : Hp}
theorem RK.at : ∀ {ws : List (Key × W)} {vs : List (Key × V)} {i : Nat} {k : Key} {v : V}, RK K m H ws vs → vs[i]? = some (k, v) → ∃ w, ws[i]? = some (k, w)
  | [], _, i, k, v, h, e => by cases h; cases e
  | (k', w') :: ws, _, 0, k, v, h, e => by
    cases h with
    | cons a b => cases e; exact ⟨_, rfl⟩
  | (k', w') :: ws, _, i + 1, k, v, h, e => by
    cases h with
    | cons a b => exact b.at (i := i) e
end
section
variable {X : Cx} {pos : Pos}
end
end Mir

set_option Elab.async false
set_option linter.all false
set_option maxRecDepth 100000
namespace Mir
open PySem PySem.Spec PyProof.Rows L2
def eDget1 (d y : FE) : FE := fun ρ s => bd (d ρ s) fun x s1 => if (dcOf x s1).isSome = true then bd (y ρ s1) fun z s2 => match dcOf x s2, keyW z with
  | some (_, kvs), some k => some ((look kvs k).getD .non, s2)
  | _, _ => none
  else none
section
variable {X : Cx} {o e : Expr} {apos cpos : Pos}
end
end Mir

set_option Elab.async false
set_option linter.all false
set_option maxRecDepth 100000
namespace Mir
open PySem PySem.Spec PyProof.Rows L2
def lookT (kvs : List (List Key × W)) (k : List Key) : Option W := (kvs.find? fun kv => decide (kv.1 = k)).map (·.2)
def putT (kvs : List (List Key × W)) (k : List Key) (w : W) : List (List Key × W) := if kvs.any (fun kv => decide (kv.1 = k)) then kvs.map fun kv => if kv.1 = k then (kv.1, w) else kv else kvs ++ [(k, w)]
section
variable {K : PySem.W.Frag}
theorem RKT.look {m : List Addr} {H : Hp} {k : List Key} : ∀ {kvs : List (List Key × W)} {vs : List (List Key × V)}, RKT K m H kvs vs → (∀ w, lookT kvs k = some w → ∃ v, valV vs k = some v ∧ R K m H w v) ∧ (lookT kvs k = none → valV vs k = none)
  | [], vs, r => by cases r; exact ⟨fun w h => (by cases h), fun _ => rfl⟩
  | (k', w') :: kvs, vs, r => by
    cases r with
    | @cons _ _ v' _ vs h1 h2 =>
      obtain ⟨q1, q2⟩ := RKT.look (k := k) h2
      by_cases e : k' = k
      · subst e
        refine ⟨fun w h => ?_, fun h => ?_⟩
        · have h : some w' = some w := by simpa [lookT, List.find?_cons] using h
          cases h
          exact ⟨v', valV_pos rfl, h1⟩
        · exfalso
          simp [lookT, List.find?_cons] at h
      · have e1 : lookT ((k', w') :: kvs) k = lookT kvs k := by simp [lookT, List.find?_cons, e]
        have e2 : valV ((k', v') :: vs) k = valV vs k := valV_neg e
        rw [e1, e2]
        exact ⟨q1, q2⟩
theorem RKT.any {m : List Addr} {H : Hp} {k : List Key} : ∀ {kvs : List (List Key × W)} {vs : List (List Key × V)}, RKT K m H kvs vs → (vs.any fun kv => decide (kv.1 = k)) = kvs.any fun kv => decide (kv.1 = k)
  | [], vs, r => by cases r; rfl
  | (k', w') :: kvs, vs, r => by
    cases r with
    | cons h1 h2 => rw [List.any_cons, List.any_cons, RKT.any h2]
theorem RKT.map {m : List Addr} {H : Hp} {k : List Key} {w : W} {v : V} (rw_ : R K m H w v) : ∀ {kvs : List (List Key × W)} {vs : List (List Key × V)}, RKT K m H kvs vs → RKT K m H (kvs.map fun kv => if kv.1 = k then (kv.1, w) else kv) (vs.map fun kv => if kv.1 = k then (kv.1, v) else kv)
  | [], vs, r => by cases r; exact .nil
  | (k', w') :: kvs, vs, r => by
    cases r with
    | cons h1 h2 =>
      rw [List.map_cons, List.map_cons]
      by_cases e : k' = k
      · simp only [e, if_true]
        exact .cons rw_ (RKT.map rw_ h2)
      · simp only [e, if_false]
        exact .cons h1 (RKT.map rw_ h2)
theorem RKT.app {m : List Addr} {H : Hp} : ∀ {a b : List (List Key × W)} {c d : List (List Key × V)}, RKT K m H a c → RKT K m H b d → RKT K m H (a ++ b) (c ++ d)
  | [], _, _, _, r, g => by cases r; exact g
  | _ :: _, _, _, _, r, g => by
    cases r with
    | cons h1 h2 => exact .cons h1 (RKT.app h2 g)
theorem RKT.put {m : List Addr} {H : Hp} {k : List Key} {w : W} {v : V} {kvs : List (List Key × W)} {vs : List (List Key × V)} (r : RKT K m H kvs vs) (rw_ : R K m H w v) : RKT K m H (putT kvs k w) (putK vs k v) := by
  unfold putT putK
  rw [r.any]
  split
  · exact r.map rw_
  · exact r.app (.cons rw_ .nil)

theorem RKT.len {m : List Addr} {H : Hp} : ∀ {ws : List (List Key × W)} {vs : List (List Key × V)}, RKT K m H ws vs → vs.length = ws.length
  | [], _, h => by cases h; rfl
  | w :: ws, _, h => by
    cases h with
    | cons h1 h2 => rw [List.length_cons, List.length_cons, RKT.len h2]
def keysW : List W → Option (List Key)
  | [] => some []
  | w :: ws => match keyW w, keysW ws with
    | some k, some ks => some (k :: ks)
    | _, _ => none
theorem keys_of {m : List Addr} {H : Hp} : ∀ {ws : List W} {vs : List V} {ks : List Key}, RL K m H ws vs → keysW ws = some ks → vs = ks.map kV
  | [], _, ks, r, h => by
    cases r
    cases h
    rfl
  | w :: ws, _, ks, r, h => by
    cases r with
    | cons h1 h2 =>
      unfold keysW at h
      cases e1 : keyW w with
      | none => simp only [e1] at h; cases h
      | some k =>
        cases e2 : keysW ws with
        | none => simp only [e1, e2] at h; cases h
        | some ks' =>
          simp only [e1, e2] at h
          cases h
          rw [List.map_cons, keys_of h2 e2, key_of h1 e1]
def dtOf (x : W) (s : Sto) : Option (Nat × List (List Key × W)) := match x with
  | .ref n => match s[n]? with
    | some (.dtt kvs) => some (n, kvs)
    | _ => none
  | _ => none
theorem dt_of {m : List Addr} {H : Hp} {s : Sto} {x : W} {v : V} {n : Nat} {kvs : List (List Key × W)} (S : SR K m H s) (r : R K m H x v) (h : dtOf x s = some (n, kvs)) : ∃ a vs, v = .ref a ∧ m[n]? = some a ∧ s[n]? = some (.dtt kvs) ∧ H a = some (.dT vs) ∧ RKT K m H kvs vs := by
  cases r with
  | @ref n' a h1 =>
    cases e : s[n']? with
    | none => simp only [dtOf, e] at h; cases h
    | some o =>
      cases o with
      | lst _ => simp only [dtOf, e] at h; cases h
      | dct _ => simp only [dtOf, e] at h; cases h
      | lam _ _ => simp only [dtOf, e] at h; cases h
      | tab _ _ => simp only [dtOf, e] at h; cases h
      | dead => simp only [dtOf, e] at h; cases h
      | frd _ => simp only [dtOf, e] at h; cases h
      | frt _ => simp only [dtOf, e] at h; cases h
      | ins _ _ => simp only [dtOf, e] at h; cases h
      | dtt kv' =>
        simp only [dtOf, e] at h
        cases h
        obtain ⟨a', h2, vs, h3, h4⟩ := S.at e
        rw [h1] at h2
        cases h2
        exact ⟨_, _, rfl, h1, e, h3, h4⟩
  | _ => cases h
theorem Adv.writeT {m : List Addr} {H : Hp} {st : Sto} (S : SR K m H st) {n : Nat} {a : Addr} {o : HO} (h : m[n]? = some a) (wk : ∃ vs, H a = some (.dT vs)) : Adv m H m (upd H a o) := by
  have ha := List.mem_of_getElem? h
  obtain ⟨vs, e⟩ := wk
  refine ⟨⟨[], by simp⟩, fun b u h n => ?_, fun _ h => .inl h, fun b xs h => ?_, fun b o u h => ?_⟩
  · rw [upd_ne (fun z => n (by rw [z]; exact ha))]; exact h
  · rw [upd_ne (fun z => ?_)]
    · exact h
    · rw [z, e] at h
      cases h
  · rw [upd_ne (fun z => ?_)]
    · exact h
    · rw [z, e] at h
      cases h
theorem SR.writeT {m : List Addr} {H : Hp} {st : Sto} (S : SR K m H st) {n : Nat} {a : Addr} {o : HO} {u : O} (h : m[n]? = some a) (wk : ∃ vs, H a = some (.dT vs)) (hu : OR K m (upd H a o) a u) : SR K m (upd H a o) (st.set n u) := by
  refine ⟨by rw [List.length_set]; exact S.len, S.nd, fun j b o' h1 h2 => ?_⟩
  by_cases e : n = j
  · subst e
    rw [h] at h1
    cases h1
    have hl : n < st.length := by rw [← S.len]; exact (List.getElem?_eq_some_iff.mp h).1
    rw [List.getElem?_set_self hl] at h2
    cases h2
    exact hu
  · rw [List.getElem?_set_ne e] at h2
    have hne : b ≠ a := fun z => by
      subst z
      obtain ⟨l1, e1⟩ := List.getElem?_eq_some_iff.mp h
      obtain ⟨l2, e2⟩ := List.getElem?_eq_some_iff.mp h1
      exact e ((List.getElem_inj S.nd).mp (e1.trans e2.symm))
    exact (S.ok j b o' h1 h2).adv (Adv.writeT S h wk) (upd_ne hne)
end
section
variable {X : Cx} {o i e f : Expr} {pos : Pos}
def eTnew : FE := fun _ s => some (.ref s.length, s ++ [.dtt []])
theorem m_tnew : PE X (.Dict [] [] pos) (tF X.K eTnew) := pe_dnewT.imp fun σ H Q ⟨m, ρ, s, er, sr, w, s', e, q⟩ => by
  cases e
  intro p hp
  exact q (m ++ [p]) _ _ (Adv.alloc hp) (SR.alloc sr hp ⟨[], upd_same, .nil⟩) (alloc_at sr)
def eTget (d : FE) (a : FA) : FE := fun ρ s => bd (d ρ s) fun x s1 => bd (a ρ s1) fun ws s2 => match dtOf x s2, keysW ws with
  | some (_, kvs), some k => if ws.length ≤ 100000 then match lookT kvs k with
    | some w => some (w, s2)
    | none => none
    else none
  | _, _ => none
theorem m_tget {es : List Expr} {x1} {p1 : Pos} {fd : FE} {fa : FA} (hu : X.A.units + 1 < cLine) (ho : PE X o (tF X.K fd)) (ha : PA X es (tA X.K fa)) (hs : NoSl (.Tuple es x1 p1)) : PE X (.Subscript o (.Tuple es x1 p1) pos) (tF X.K (eTget fd fa)) :=
  (pe_dget hu ho (pe_tup ha) hs).imp fun σ H Q ⟨m, ρ, s, er, sr, w, s', e, q⟩ => by
    obtain ⟨x, s1, e1, e⟩ := bd_inv e
    obtain ⟨ws, s2, e2, e⟩ := bd_inv e
    refine ⟨m, ρ, s, er, sr, x, s1, e1, fun m1 H1 v A1 S1 r1 => ⟨m1, ρ, s1, er.adv A1, S1, ws, s2, e2, fun m2 H2 us A2 S2 r2 => ?_⟩⟩
    cases ed : dtOf x s2 with
    | none => simp only [ed] at e; cases e
    | some p =>
      obtain ⟨n, kvs⟩ := p
      cases ek : keysW ws with
      | none => simp only [ed, ek] at e; cases e
      | some k =>
        simp only [ed, ek] at e
        split at e
        · rename_i hl
          cases el : lookT kvs k with
          | none => simp only [el] at e; cases e
          | some w' =>
            simp only [el] at e
            cases e
            refine ⟨szl (by rw [r2.len]; exact hl), fun p hp => ?_⟩
            have A3 : Adv m2 H2 m2 (upd H2 p (.tup us)) := Adv.fresh hp
            have S3 := S2.fresh (p := p) (o := .tup us) hp
            obtain ⟨a, vs, rfl, hm, hs2, hd, rk⟩ := dt_of S3 ((r1.adv A2).adv A3) ed
            obtain ⟨v', hv, rv⟩ := (rk.look (k := k)).1 _ el
            have hy := keys_of r2 ek
            subst hy
            refine ⟨a, v', rfl, ?_, q m2 _ v' ((A1.trans A2).trans A3) S3 rv⟩
            have g := DGet.t (k := k) hd (b := p) upd_same
            rw [hv] at g
            exact g
        · cases e
def sTput (d : FE) (a : FA) (f : FE) : FS := fun ρ s => bd (f ρ s) fun w s1 => bd (d ρ s1) fun x s2 => bd (a ρ s2) fun ws s3 => match dtOf x s3, keysW ws with
  | some (n, kvs), some k => if ws.length ≤ 100000 ∧ kvs.length ≤ 100000 then some (.nx ρ, s3.set n (.dtt (putT kvs k w))) else none
  | _, _ => none
theorem ms_tput {es : List Expr} {x1} {p1 : Pos} {fd fv : FE} {fa : FA} {v : Expr} {pos' : Pos} (hu : X.A.units + 1 < cLine) (ho : PE X o (tF X.K fd)) (ha : PA X es (tA X.K fa)) (hv : PE X v (tF X.K fv)) (hs : swapsWith v (some (.Subscript o (.Tuple es x1 p1) pos')) pos.line X.env = pure false := by rfl) :
    PS X (.Assign [.Subscript o (.Tuple es x1 p1) pos'] v pos) (tS X.K (sTput fd fa fv)) :=
  (ps_dput hu ho (pe_tup ha) hv hs).imp fun D σ H ⟨m, ρ, s, er, sr, oo, s', e, q⟩ => by
    obtain ⟨w, s1, e1, e⟩ := bd_inv e
    obtain ⟨x, s2, e2, e⟩ := bd_inv e
    obtain ⟨ws, s3, e3, e⟩ := bd_inv e
    refine ⟨m, ρ, s, er, sr, w, s1, e1, fun m1 H1 v A1 S1 r1 => ⟨m1, ρ, s1, er.adv A1, S1, x, s2, e2, fun m2 H2 u A2 S2 r2 => ⟨m2, ρ, s2, (er.adv A1).adv A2, S2, ws, s3, e3, fun m3 H3 us A3 S3 r3 => ?_⟩⟩⟩
    cases ed : dtOf x s3 with
    | none => simp only [ed] at e; cases e
    | some p =>
      obtain ⟨n, kvs⟩ := p
      cases ek : keysW ws with
      | none => simp only [ed, ek] at e; cases e
      | some k =>
        simp only [ed, ek] at e
        split at e
        · rename_i hl
          cases e
          refine ⟨szl (by rw [r3.len]; exact hl.1), fun p hp => ?_⟩
          have A5 : Adv m3 H3 m3 (upd H3 p (.tup us)) := Adv.fresh hp
          have S5 : SR X.K m3 (upd H3 p (.tup us)) s3 := S3.fresh hp
          obtain ⟨a, vs, rfl, hm, hs2, hd, rk⟩ := dt_of S5 ((r2.adv A3).adv A5) ed
          have hy := keys_of r3 ek
          subst hy
          refine ⟨a, _, rfl, DPut.t (k := k) hd (b := p) upd_same (szt (by rw [rk.len]; exact hl.2)), ?_⟩
          have A4 : Adv m3 (upd H3 p (.tup (k.map kV))) m3 (upd (upd H3 p (.tup (k.map kV))) a (.dT (putK vs k v))) := Adv.writeT S5 hm ⟨_, hd⟩
          exact q m3 _ σ ((((A1.trans A2).trans A3).trans A5).trans A4) (S5.writeT hm ⟨_, hd⟩ ⟨_, upd_same, (rk.adv A4).put ((((r1.adv A2).adv A3).adv A5).adv A4)⟩) (((((er.adv A1).adv A2).adv A3).adv A5).adv A4)
        · cases e
end
end Mir

set_option Elab.async false
set_option linter.all false
set_option maxRecDepth 100000
namespace Mir
open PySem PySem.Spec PyProof.Rows L2
section
variable {K : PySem.W.Frag}
theorem RL.strs {m : List Addr} {H : Hp} : ∀ zs : List Str, RL K m H (zs.map W.str) (zs.map V.str)
  | [] => .nil
  | x :: r => .cons (.str x) (RL.strs r)
def OneS (ss ys : List Str) : Prop := ∀ zs : List Str, zs.Perm ss → sortedS zs = true → zs = ys
open Classical in
noncomputable def gSortedS : List W → Sto → Rz W := fun ws s => match ws with
  | [x] => match lstOf x s with
    | some xs => match strsOf xs with
      | some ss => if h : ss.length < 64 ∧ ∃ ys, OneS ss ys then some (.ref s.length, s ++ [.lst ((choose h.2).map W.str)]) else none
      | none => none
    | none => none
  | _ => none
theorem f_sortedS : CallF K (rSortedS K) gSortedS := by
  intro m H s ws vs Q S r h
  cases r with
  | nil => exact nopeE h
  | @cons x v ws vs r1 r2 =>
    cases r2 with
    | cons _ _ => exact nopeE h
    | nil =>
      cases es : lstOf x s with
      | none => exact nopeE' h (by simp only [gSortedS, es])
      | some xs =>
        cases eb : strsOf xs with
        | none => exact nopeE' h (by simp only [gSortedS, es, eb])
        | some ss =>
          simp only [gSortedS, es, eb] at h
          by_cases hc : ss.length < 64 ∧ ∃ ys, OneS ss ys
          · rw [dif_pos hc] at h
            obtain ⟨p, ys, rfl, hs, r⟩ := lst_of S r1 es
            rw [strs_of r eb] at hs
            refine ⟨p, ss, rfl, hs, hc.1, fun zs q hp hu hq => ?_⟩
            obtain ⟨w, s', e2, q2⟩ := h
            cases e2
            rw [Classical.choose_spec hc.2 zs hp hu]
            exact new_lst S (RL.strs _) hq q2
          · rw [dif_neg hc] at h
            exact nopeE h
end
theorem sortS_at {x : W} {s : Sto} {xs : List W} {ss ys : List Str} (h : lstOf x s = some xs) (e : strsOf xs = some ss) (hl : ss.length < 64) (o : OneS ss ys) (hy : ys.Perm ss) (hs : sortedS ys = true) : gSortedS [x] s = some (.ref s.length, s ++ [.lst (ys.map W.str)]) := by
  have hc : ss.length < 64 ∧ ∃ ys, OneS ss ys := ⟨hl, _, o⟩
  simp only [gSortedS, h, e]
  rw [dif_pos hc]
  have := Classical.choose_spec hc.2 ys hy hs
  rw [← this]
end Mir

set_option Elab.async false
set_option linter.all false
set_option maxRecDepth 100000
namespace Mir
open PySem PySem.Spec PyProof.Rows L2
def leS (a b : Str) : Bool := !ltCps b.cps.toList a.cps.toList
theorem leS_iff {a b : Str} : leS a b = true ↔ ¬ (b.cps.toList < a.cps.toList) := by
  unfold leS; rw [ltCps_eq]; simp
theorem leS_trans {a b c : Str} (h : leS a b = true) (q : leS b c = true) : leS a c = true := by
  rw [leS_iff] at *
  exact List.le_trans (α := Nat) (l₁ := a.cps.toList) (l₂ := b.cps.toList) (l₃ := c.cps.toList) h q
theorem leS_total {a b : Str} : (leS a b || leS b a) = true := by
  have := List.le_total a.cps.toList b.cps.toList
  rw [Bool.or_eq_true, leS_iff, leS_iff]
  exact this
theorem leS_anti {a b : Str} (h : leS a b = true) (q : leS b a = true) : a = b := by
  rw [leS_iff] at *
  have e : a.cps.toList = b.cps.toList := List.le_antisymm (α := Nat) h q
  cases a; cases b
  simp only [Array.toList_inj] at e
  rw [e]
theorem risingS_pw : ∀ (p : Str) (l : List Str), risingS p l = true → (p :: l).Pairwise (fun a b => leS a b = true)
  | p, [], _ => by simp
  | p, x :: r, h => by
    rw [risingS, Bool.and_eq_true] at h
    have ih := risingS_pw x r h.2
    refine List.pairwise_cons.mpr ⟨fun y hy => ?_, ih⟩
    rcases List.mem_cons.mp hy with rfl | hy
    · exact h.1
    · exact leS_trans (b := x) h.1 (List.rel_of_pairwise_cons ih hy)
theorem sortedS_pw {l : List Str} (h : sortedS l = true) : l.Pairwise (fun a b => leS a b = true) := by
  cases l with
  | nil => exact .nil
  | cons x r => exact risingS_pw x r h
theorem pw_sortedS {l : List Str} (h : l.Pairwise (fun a b => leS a b = true)) : sortedS l = true := sortedS_of_pairwise l (h.imp fun {a b} q => by unfold leS at q; simpa using q)
theorem pw_one : ∀ {l m : List Str}, l.Perm m → l.Pairwise (fun a b => leS a b = true) → m.Pairwise (fun a b => leS a b = true) → l = m
  | [], m, hp, _, _ => (List.nil_perm.mp hp).symm
  | x :: l, [], hp, _, _ => absurd hp.length_eq (by simp)
  | x :: l, y :: m, hp, h1, h2 => by
    have e : x = y := by
      have hx : x ∈ y :: m := hp.mem_iff.mp List.mem_cons_self
      have hy : y ∈ x :: l := hp.mem_iff.mpr List.mem_cons_self
      rcases List.mem_cons.mp hx with e | hx
      · exact e
      · rcases List.mem_cons.mp hy with e | hy
        · exact e.symm
        · exact leS_anti (List.rel_of_pairwise_cons h1 hy) (List.rel_of_pairwise_cons h2 hx)
    subst e
    rw [pw_one ((List.perm_cons x).mp hp) (List.pairwise_cons.mp h1).2 (List.pairwise_cons.mp h2).2]
def srt (ss : List Str) : List Str := ss.mergeSort leS
theorem srt_perm (ss : List Str) : (srt ss).Perm ss := List.mergeSort_perm ss leS
theorem srt_pw (ss : List Str) : (srt ss).Pairwise (fun a b => leS a b = true) := List.pairwise_mergeSort (le := leS) (fun a b c => leS_trans) (fun a b => leS_total (a := a) (b := b)) ss
theorem srt_sorted (ss : List Str) : sortedS (srt ss) = true := pw_sortedS (srt_pw ss)
theorem oneS_any {ss ys : List Str} (hy : ys.Perm ss) (hs : sortedS ys = true) : OneS ss ys := fun zs hz hq => pw_one (hz.trans hy.symm) (sortedS_pw hq) (sortedS_pw hs)
theorem sort_any {x : W} {s : Sto} {xs : List W} {ss : List Str} (h : lstOf x s = some xs) (e : strsOf xs = some ss) (hl : ss.length < 64) : gSortedS [x] s = some (.ref s.length, s ++ [.lst ((srt ss).map W.str)]) :=
  sortS_at h e hl (oneS_any (srt_perm ss) (srt_sorted ss)) (srt_perm ss) (srt_sorted ss)
end Mir

set_option Elab.async false
set_option linter.all false
set_option maxRecDepth 100000
set_option maxHeartbeats 1000000
namespace Zm
open PySem
open PySem.Sem (wp)
def ItK (k : Bool) (h : Heap) (it l : Addr) (i : Nat) : Prop := match k with
  | true => h.IsTupleIter it l i
  | false => h.IsListIter it l i
def SqK (k : Bool) (h : Heap) (l : Addr) (xs : Array Value) : Prop := match k with
  | true => h.IsTuple l xs
  | false => h.IsList l xs
theorem ItK.extBut {k : Bool} {h h' : Heap} {it l z : Addr} {i : Nat} (t : ItK k h it l i) (e : Heap.ExtBut z h h') (n : it ≠ z) : ItK k h' it l i := by
  cases k
  · exact Heap.IsListIter.extBut t e n
  · exact Heap.IsTupleIter.extBut t e n
theorem SqK.extBut {k : Bool} {h h' : Heap} {l z : Addr} {xs : Array Value} (t : SqK k h l xs) (e : Heap.ExtBut z h h') (n : l ≠ z) : SqK k h' l xs := by
  cases k
  · exact Heap.IsList.extBut t e n
  · exact Heap.IsTuple.extBut t e n
theorem ItK.at {k : Bool} {h h' : Heap} {it l : Addr} {i : Nat} (t : ItK k h it l i) (q : ∀ o, h.get? it = some o → h'.get? it = some o) : ItK k h' it l i := by
  cases k
  · exact Heap.IsListIter.at t q
  · exact Heap.IsTupleIter.at t q
theorem ItK.lt {k : Bool} {h : Heap} {it l : Addr} {i : Nat} (t : ItK k h it l i) : it < h.objs.size := by
  cases k
  · obtain ⟨_, e, _⟩ := t; exact Heap.lt_size e
  · obtain ⟨_, e, _⟩ := t; exact Heap.lt_size e
theorem ItK.ob {k : Bool} {h : Heap} {it l : Addr} {i : Nat} (t : ItK k h it l i) : ∃ o, h.get? it = some o ∧ ∀ v, o.data ≠ .cell v := by
  cases k
  · obtain ⟨o, e, _, d⟩ := t; exact ⟨o, e, fun v q => by rw [d] at q; cases q⟩
  · obtain ⟨o, e, _, d⟩ := t; exact ⟨o, e, fun v q => by rw [d] at q; cases q⟩
section
variable {prog : Program} {w : World} {A : Around} {E : Value → Shared → Prop} {s : Shared}
end

abbrev zmH1 (h : Heap) (l1 : Addr) : Heap := h.push { cls := .type "list_iterator", data := .fields #[.ref l1, .int 0 0] }
abbrev zmH2 (h : Heap) (l1 l2 : Addr) : Heap := (zmH1 h l1).push { cls := .type "tuple_iterator", data := .fields #[.ref l2, .int 0 0] }
abbrev zmH3 (h : Heap) (l1 l2 : Addr) : Heap := (zmH2 h l1 l2).push { cls := .type "tuple", data := .seq #[.ref h.objs.size, .ref (zmH1 h l1).objs.size] }
abbrev zmH4 (h : Heap) (l1 l2 : Addr) : Heap := (zmH3 h l1 l2).push { cls := .type "tuple", data := .seq #[.none, .none] }
abbrev zmH5 (h : Heap) (l1 l2 : Addr) : Heap := (zmH4 h l1 l2).push { cls := .type "zip", data := .fields #[.none, .bool false, .bool false, .ref (zmH2 h l1 l2).objs.size, .ref (zmH3 h l1 l2).objs.size] }

section
variable {prog : Program} {w : World} {A : Around} {E : Value → Shared → Prop} {s : Shared}

end
end Zm

set_option Elab.async false
set_option linter.all false
set_option maxRecDepth 100000
namespace Zm
open PySem PySem.Spec PyProof.Rows L2
def ItzM (K : PySem.W.Frag) (a b : Addr) : It :=
  ⟨fun i H => ∃ (xs ys : List V) (x y : V), SqL K H a xs ∧ SqT K H b ys ∧ xs[i]? = some x ∧ ys[i]? = some y,
    fun i H v H' => ∃ T x y, v = .ref T ∧ H T = none ∧ H' = upd H T (.tup [x, y]) ∧ (∀ xs, SqL K H a xs → xs[i]? = some x) ∧ ∀ ys, SqT K H b ys → ys[i]? = some y,
    fun i H => ∃ xs ys : List V, SqL K H a xs ∧ SqT K H b ys ∧ (xs.length ≤ i ∨ ys.length ≤ i)⟩
def iZipM (K : PySem.W.Frag) (ta : TA) : TI := fun σ H R => ta σ H fun vs H1 => ∃ a b xs ys, vs = [.ref a, .ref b] ∧ SqL K H1 a xs ∧ SqT K H1 b ys ∧ R (ItzM K a b) H1
end Zm

set_option Elab.async false
set_option linter.all false
set_option maxRecDepth 100000
namespace Mir
open PySem PySem.Spec PyProof.Rows L2
section
variable {K : PySem.W.Frag} {m : List Addr} {H : Hp}
end
def iZm (f g : FE) : FI := fun ρ s => bd (f ρ s) fun x s1 => bd (g ρ s1) fun y s2 => match y with
  | .tup us => match lstOf x s2 with
    | some ws => some ((zipW ws us, chkOf x ws), s2)
    | none => none
  | _ => none
section
variable {X : Cx} {tg e e2 : Expr} {pos : Pos}
end
end Mir

set_option Elab.async false
set_option linter.all false
set_option maxRecDepth 100000
namespace Mir
open PySem PySem.Spec PyProof.Rows L2
def eD2 (k1 k2 : Str) (f1 f2 : FE) : FE := fun ρ s => bd (f1 ρ (s ++ [.dct []])) fun w1 s2 => bd (f2 ρ s2) fun w2 s3 => match s3[s.length]? with
  | some (.dct []) => some (.ref s.length, s3.set s.length (.dct [(.inr k1, w1), (.inr k2, w2)]))
  | _ => none
section
variable {X : Cx}
theorem m_d2 {k1 k2 : Str} {j1 j2 : Nat} {p1 p2 : Pos} {e1 e2 : Expr} {f1 f2 : FE} {pos : Pos} (hne : k1 ≠ k2) (h1 : PE X e1 (tF X.K f1)) (h2 : PE X e2 (tF X.K f2)) : PE X (.Dict [some (.Constant (.str k1) j1 p1), some (.Constant (.str k2) j2 p2)] [e1, e2] pos) (tF X.K (eD2 k1 k2 f1 f2)) :=
  (pe_disp (pps_cons (m_str (x := k1)) h1 (pps_cons (m_str (x := k2)) h2 pps_nil)) rfl rfl (by simp) (by simp)).imp fun σ H Q ⟨m, ρ, s, er, sr, w, s', e, q⟩ => by
    intro p hp
    obtain ⟨y1, s2, g1, e⟩ := bd_inv e
    obtain ⟨y2, s3, g2, e⟩ := bd_inv e
    have A0 : Adv m H (m ++ [p]) (upd H p (.dK [])) := Adv.alloc hp
    refine ⟨m ++ [p], ρ, s ++ [.dct []], er.adv A0, sr.alloc (u := .dct []) hp ⟨[], upd_same, .nil⟩, .str k1, _, rfl, fun m1 H1 v A1 S1 r1 => ⟨m1, ρ, _, (er.adv A0).adv A1, S1, y1, s2, g1, fun m2 H2 u A2 S2 r2 => ⟨m2, ρ, s2, ((er.adv A0).adv A1).adv A2, S2, .str k2, _, rfl, fun m3 H3 v3 A3 S3 r3 => ⟨m3, ρ, s2, (((er.adv A0).adv A1).adv A2).adv A3, S3, y2, s3, g2, fun m4 H4 v4 A4 S4 r4 => ?_⟩⟩⟩⟩
    split at e
    · rename_i hd
      cases e
      cases r1
      cases r3
      obtain ⟨a, ha, vs, hv', rk⟩ := S4.at hd
      cases rk
      have hm : m4[s.length]? = some p := by
        refine A4.get (A3.get (A2.get (A1.get ?_)))
        rw [← sr.len]
        simp
      rw [hm] at ha
      cases ha
      refine ⟨hv', [(.inr k1, u), (.inr k2, v4)], rfl, by simp, ?_⟩
      have hk : ¬ (Sum.inr k1 : Key) = .inr k2 := fun z => hne (by injection z)
      have em : mergeK [] [((.inr k1 : Key), u), (.inr k2, v4)] = [(.inr k1, u), (.inr k2, v4)] := by
        simp [mergeK, putK, hk]
      rw [em]
      have A5 : Adv m4 H4 m4 (upd H4 p (.dK [(.inr k1, u), (.inr k2, v4)])) := Adv.write S4 hm ⟨_, hv', .inr ⟨_, rfl⟩⟩
      exact q m4 _ _ (((((A0.trans A1).trans A2).trans A3).trans A4).trans A5) (S4.write hm ⟨_, hv', .inr ⟨_, rfl⟩⟩ ⟨_, upd_same, .cons (((r2.adv A3).adv A4).adv A5) (.cons (r4.adv A5) .nil)⟩) (.ref hm)
    · cases e
end
section
variable {ρ : EnvM} {s : Sto} {R : W → Sto → Prop} {k1 k2 : Str} {f1 f2 : FE}
theorem wp_d2 : Wp (eD2 k1 k2 f1 f2 ρ s) R = Wp (f1 ρ (s ++ [.dct []])) (fun w1 s2 => Wp (f2 ρ s2) (fun w2 s3 => s3[s.length]? = some (.dct []) ∧ R (.ref s.length) (s3.set s.length (.dct [(.inr k1, w1), (.inr k2, w2)])))) := by
  unfold eD2
  rw [wp_bd]
  congr; funext w1 s2
  rw [wp_bd]
  congr; funext w2 s3
  split
  · rename_i h
    rw [wp_some]
    exact propext ⟨fun q => ⟨h, q⟩, fun q => q.2⟩
  · rename_i h
    rw [wp_none]
    exact propext ⟨fun q => q.elim, fun q => h q.1⟩
end
end Mir

set_option Elab.async false
set_option linter.all false
set_option maxRecDepth 100000
namespace Mir
open PySem PySem.Spec PyProof.Rows L2
abbrev LamA.nf (A : LamA) (cl : List (Str × Addr)) (c : Addr) : NdefX.NF := ⟨"<lambda>", A.qual, A.params, [], A.scope, cl, c⟩
def mkL (n : Nat) (f : FE) : List W → Sto → Rz W := fun ws s => if ws.length = n then f (ws.map some) s else none
structure LOk (P : Program) (w : World) (K : PySem.W.Frag) (mg : Str → Option Value) (base : Heap) (k : Nat) (A : LamA) (G : List W → Sto → Rz W) : Prop where
  len : ∀ ws s r, G ws s = some r → ws.length = A.ps.length + A.fr.length
  run : ∀ (Ar : Around) (outer : List Env) (s : Shared) (H : Hp) (us : List Value) (vs cvs : List V) (Q : VK) (f c : Addr) (cl : List (Str × Addr)) (pm ctv : Value), Room k Ar → Env0 P w K mg base Ar outer s H →
    s.heap.get? f = some (PySem.W.kla_obj "<lambda>" A.qual A.params A.body A.scope cl pm c ctv) → s.heap.CodeRec (.ref c) A.qual → NdefX.CellsAt cl A.fr (cvs.map some) s.heap H → Vals vs us → vs.length = A.ps.length →
    (∃ m st ws caps, RL K m H ws vs ∧ RL K m H caps cvs ∧ SR K m H st ∧ wE K m H (G (ws ++ caps) st) Q) → codeAny (model P w) Ar (.call (.ref f) ⟨us, []⟩) (CR CX0 outer P w H s Q E0) s
theorem LOk.mono {P : Program} {w : World} {K : PySem.W.Frag} {mg : Str → Option Value} {base : Heap} {j k : Nat} {A : LamA} {G : List W → Sto → Rz W} (o : LOk P w K mg base j A G) (h : j ≤ k) : LOk P w K mg base k A G :=
  ⟨o.len, fun Ar outer s H us vs cvs Q f c cl pm ctv hr => o.run Ar outer s H us vs cvs Q f c cl pm ctv (hr.mono h)⟩
end Mir

set_option Elab.async false
set_option linter.all false
set_option maxRecDepth 100000
namespace Mir
open PySem PySem.Spec PyProof.Rows L2
open Classical in
noncomputable def offC (H : Hp) (cl : List (Str × Addr)) : Hp := fun b => if ∃ y, cl.lookup y = some b then none else H b
open Classical in
noncomputable def onC (H H' : Hp) (cl : List (Str × Addr)) : Hp := fun b => if ∃ y, cl.lookup y = some b then H b else H' b
section
variable {K : PySem.W.Frag} {m m' : List Addr} {H H' : Hp} {cl : List (Str × Addr)} {b : Addr}
structure ExtW (m : List Addr) (H : Hp) (m' : List Addr) (H' : Hp) : Prop where
  pre : ∃ t, m' = m ++ t
  tup : ∀ a xs, H a = some (.tup xs) → H' a = some (.tup xs)
  frz : ∀ a o xs, H a = some (.frz o (.lst xs)) → H' a = some (.frz o (.lst xs))
theorem ExtW.get (a : ExtW m H m' H') {n : Nat} {x : Addr} (h : m[n]? = some x) : m'[n]? = some x := by
  obtain ⟨t, rfl⟩ := a.pre
  rw [List.getElem?_append_left (List.getElem?_eq_some_iff.mp h).1]
  exact h
mutual
theorem R.extW (A : ExtW m H m' H') : ∀ {w : W} {v : V}, R K m H w v → R K m' H' w v
  | .non, _, h => by cases h; exact .non
  | .bl _, _, h => by cases h; exact .bl _
  | .int _, _, h => by cases h; exact .int _
  | .str _, _, h => by cases h; exact .str _
  | .tup ws, _, h => by
    cases h with
    | tup h1 h2 =>
      refine .tup ?_ (RL.extW A h2)
      rcases h1 with h1 | h1
      · exact .inl (A.tup _ _ h1)
      · exact .inr h1
  | .lro ws, _, h => by
    cases h with
    | lro h1 h2 =>
      refine .lro ?_ (RL.extW A h2)
      rcases h1 with ⟨o, h1⟩ | h1
      · exact .inl ⟨o, A.frz _ _ _ h1⟩
      · exact .inr h1
  | .ref _, _, h => by
    cases h with
    | ref h1 => exact .ref (A.get h1)
  | .fn _, _, h => by
    cases h with
    | fn h1 => exact .fn h1
  | .xob _, _, h => by
    cases h with
    | xob => exact .xob _
theorem RL.extW (A : ExtW m H m' H') : ∀ {ws : List W} {vs : List V}, RL K m H ws vs → RL K m' H' ws vs
  | [], _, h => by cases h; exact .nil
  | w :: ws, _, h => by
    cases h with
    | cons h1 h2 => exact .cons (R.extW A h1) (RL.extW A h2)
end
theorem RK.extW (A : ExtW m H m' H') : ∀ {ws : List (Key × W)} {vs : List (Key × V)}, RK K m H ws vs → RK K m' H' ws vs
  | [], _, h => by cases h; exact .nil
  | w :: ws, _, h => by
    cases h with
    | cons h1 h2 => exact .cons (h1.extW A) (RK.extW A h2)
theorem RF.extW (A : ExtW m H m' H') : ∀ {ws : List (Str × W)} {vs : List (Str × V)}, RF K m H ws vs → RF K m' H' ws vs
  | [], _, h => by cases h; exact .nil
  | w :: ws, _, h => by
    cases h with
    | cons h1 h2 => exact .cons (h1.extW A) (RF.extW A h2)
theorem RKT.extW (A : ExtW m H m' H') : ∀ {ws : List (List Key × W)} {vs : List (List Key × V)}, RKT K m H ws vs → RKT K m' H' ws vs
  | [], _, h => by cases h; exact .nil
  | w :: ws, _, h => by
    cases h with
    | cons h1 h2 => exact .cons (h1.extW A) (RKT.extW A h2)
def CellsOf (H : Hp) (cl : List (Str × Addr)) : Prop := ∀ b, (∃ y, cl.lookup y = some b) → ∃ ok v, H b = some (.frz ok (.own 0)) ∧ ok.data = .cell v
theorem ClO.cells {fr : List Str} {cvs : List V} (c : ClO H cl fr cvs) : CellsOf H cl := by
  rintro b ⟨y, hy⟩
  obtain ⟨i, hi⟩ := List.mem_iff_getElem?.mp (c.dom y b hy)
  obtain ⟨k, ok, uv, v, h1, h2, h3, h4, _⟩ := c.at_ i y hi
  rw [hy] at h2
  cases h2
  exact ⟨ok, _, h3, h4⟩
def kill1 : O → O
  | .lam _ _ => .dead
  | o => o
def kill (s : Sto) : Sto := s.map kill1
def revive : Sto → Sto → Sto
  | .lam A c :: r, .dead :: r' => .lam A c :: revive r r'
  | _ :: r, o :: r' => o :: revive r r'
  | _, s => s
end
end Mir

set_option Elab.async false
set_option linter.all false
set_option maxRecDepth 100000
namespace Mir
open PySem PySem.Spec PyProof.Rows L2
def frdOf (x : W) (s : Sto) : Option (List (Key × W)) := match x with
  | .ref n => match s[n]? with
    | some (.frd kvs) => some kvs
    | _ => none
  | _ => none
def fiKeys (l : Nat) : FI := fun ρ s => match ρ[l]? with
  | some (some x) => match frdOf x s with
    | some kvs => some ((kvs.map (fun kv => kW kv.1), none), s)
    | none => none
  | _ => none
open Classical in
noncomputable def lkE (l : Nat) (f : FE) : FE := fun ρ s => match ρ[l]? with
  | some (some x) => match dcOf x s with
    | some (n, kvs) => bd (f ρ (s.set n (.frd kvs))) fun w s1 => match s1[n]? with
      | some (.frd kvs') => some (w, s1.set n (.dct kvs'))
      | _ => none
    | none => none
  | _ => none
open Classical in
noncomputable def lkS (l : Nat) (f : FS) : FS := fun ρ s => match ρ[l]? with
  | some (some x) => match dcOf x s with
    | some (n, kvs) => bd (f ρ (s.set n (.frd kvs))) fun o s1 => match s1[n]? with
      | some (.frd kvs') => some (o, s1.set n (.dct kvs'))
      | _ => none
    | none => none
  | _ => none
section
variable {K : PySem.W.Frag} {m m1 : List Addr} {H H1 : Hp}
theorem EQ.extW (A : ExtW m H m1 H1) : ∀ {x : Option W} {y : Option V}, EQ K m H x y → EQ K m1 H1 x y
  | some _, some _, h => R.extW A h
  | none, _, _ => trivial
  | some _, none, h => h
theorem ER.extW (A : ExtW m H m1 H1) : ∀ {ρ : EnvM} {σ : List (Option V)}, ER K m H ρ σ → ER K m1 H1 ρ σ
  | _, _, .nil => .nil
  | _, _, .cons h t => .cons (EQ.extW A h) (ER.extW A t)
end
section
variable {X : Cx} {pos : Pos}
def strK : List (Key × W) → Option (List Str)
  | [] => some []
  | (.inr z, _) :: r => (strK r).map (z :: ·)
  | (.inl _, _) :: _ => none
open Classical in
noncomputable def gSortedD : List W → Sto → Rz W := fun ws s => match ws with
  | [x] => match dcOf x s with
    | some (_, kvs) => match strK kvs with
      | some ss => if h : ss.length < 64 ∧ ∃ ys, OneS ss ys then some (.ref s.length, s ++ [.lst ((choose h.2).map W.str)]) else none
      | none => none
    | none => none
  | _ => none
def rSortedD : List V → Hp → VK → Prop := fun xs H Q =>
  ∃ (a : Addr) (kvs : List (Key × V)) (ks : List Str), xs = [.ref a] ∧ Rd H a (.dK kvs) ∧ kvs.map (·.1) = ks.map Sum.inr ∧ ks.length < 64 ∧ ∀ (ys : List Str) (p : Addr), ys.Perm ks → sortedS ys = true → H p = none → Q (.ref p) (upd H p (.lst (ys.map V.str)))
end
end Mir

set_option Elab.async false
set_option linter.all false
set_option maxRecDepth 100000
namespace Mir
open PySem PySem.Spec PyProof.Rows L2 PySem.W PySem.Calls
def offH (h : Heap) (k : Addr) : Heap := { h with objs := h.objs.setIfInBounds k { cls := .none, data := .freed } }
theorem off_same {h : Heap} {k : Addr} : (offH h k).get? k = none := by
  unfold Heap.get?
  have e : (offH h k).objs[k]? = if k < h.objs.size then some { cls := .none, data := .freed } else none := by
    simp only [offH, Array.getElem?_setIfInBounds, if_true]
  rw [e]
  by_cases q : k < h.objs.size
  · rw [if_pos q]
  · rw [if_neg q]
theorem off_ne {h : Heap} {k b : Addr} (hb : b ≠ k) : (offH h k).get? b = h.get? b := by
  unfold Heap.get?
  have e : (offH h k).objs[b]? = h.objs[b]? := by
    simp only [offH, Array.getElem?_setIfInBounds]
    rw [if_neg (show ¬ k = b from fun z => hb z.symm)]
  rw [e]
section
variable {prog : Program} {w : World} {A : Around} {E : Value → Shared → Prop} {s s0 : Shared} {a kS : Addr} {vs : List Value} {e1 : Nat} {P : PySem.Fin → Shared → Prop} {kz : List PyData} {f : Value} {J : Addr → Addr → List PyData → Array Value → Shared → Prop}
def TurnK (prog : Program) (w : World) (A : Around) (f : Value) (vs : List Value) (kz : List PyData) (J : Addr → Addr → List PyData → Array Value → Shared → Prop) (a kS : Addr) : Prop := ∀ (i : Nat) (v : Value) (d : PyData), vs[i]? = some v → kz[i]? = some d → ∀ ds kA s1, J a kS ds kA s1 → ∀ o1 o2, s1.heap.get? kS = some o1 → s1.heap.get? a = some o2 →
  wpAny (model prog w) A (call f [v]) (fun u s2 => s2.heap.get? kS = some o1 ∧ s2.heap.get? a = some o2 ∧ ∀ g, Heap.SameBut kS s2.heap g → J a kS (ds ++ [d]) (kA.push u) { s2 with heap := g }) (fun _ _ => False) s1
theorem rest_run (J0 : J a kS [] #[] s) (hka : kS ≠ a) (nk : s.heap.get? kS = some (seqObj "list" #[] 0)) (na : s.heap.get? a = some (seqObj "list" #[] e1))
    (hlen : kz.length = vs.length) (hZ : vs.length ≤ sizeLine) (hal : AllAlike kz) (hsk : Sortable kz) (hu : ∀ d, d ∈ kz → A.units + d.depth < cLine)
    (turn : TurnK prog w A f vs kz J a kS) (rd : ∀ kA s1, J a kS kz kA s1 → EachIs (fun v d => ∃ as, Reads s1.heap v d as) kA.toList kz)
    (h : ∀ kA s1 h3 tk out c, J a kS kz kA s1 → (∀ b o, b ≠ a → b ≠ kS → s1.heap.get? b = some o → h3.get? b = some o) → h3.get? a = some (seqObj "list" (List.toArray out) c) → KeyedOut false kz vs out → P (.done (.ret .none)) { s1 with heap := h3, toks := tk }) :
    wpAny (model prog w) A (ksk_rest a f false vs.toArray e1 (.ref kS)) P E s := by
  unfold ksk_rest
  refine wpAny_bind (wpAny_rule ?_)
  rw [← Array.forIn_toList]
  simp only [List.toList_toArray]
  refine wpAny_bind (ksk_fold (fun i s' => ∃ kA e, J a kS (kz.take i) kA s' ∧ kA.size = i ∧ s'.heap.get? kS = some (seqObj "list" kA e) ∧ s'.heap.get? a = some (seqObj "list" #[] e1)) vs 0 s ⟨#[], 0, by rw [List.take_zero]; exact J0, rfl, nk, na⟩ (fun j x s' hx hI => ?_) fun s' hI => ?_)
  · simp only [Nat.zero_add] at hI ⊢
    obtain ⟨kA, e, Jj, sz, nk', na'⟩ := hI
    have hj := (List.getElem?_eq_some_iff.mp hx).1
    obtain ⟨d, hd⟩ : ∃ d, kz[j]? = some d := ⟨_, List.getElem?_eq_getElem (by omega)⟩
    refine wpAny_bind (wpAny_attempt (wpAny_mono (turn j x d hx hd _ kA s' Jj _ _ nk' na') (fun u s2 hq => ?_) fun _ _ q => q.elim))
    obtain ⟨nk2, na2, J2⟩ := hq
    have sb := Heap.SameBut.update s2.heap kS (Obj.mapSeq (·.push u))
    obtain ⟨c2, nk3⟩ : ∃ c2, (s2.heap.update kS (Obj.mapSeq (·.push u))).get? kS = some (seqObj "list" (kA.push u) c2) := ⟨_, get?_update_seq nk2 (·.push u)⟩
    have tk : kz.take (j + 1) = kz.take j ++ [d] := by rw [List.take_add_one, hd]; rfl
    have hsz : kA.size ≤ sizeLine := by omega
    dsimp only
    refine wpAny_bind (listUpdate_at nk2 rfl ?_ hsz (by rw [Array.size_push]; exact Nat.succ_le_succ hsz))
    exact wpAny_pure ⟨rfl, kA.push u, c2, by rw [tk]; exact J2 _ sb, by rw [Array.size_push, sz], nk3, (sb.2 a (fun z => hka z.symm)).trans na2⟩
  · obtain ⟨kA, e, Jz, sz, nk2, na2⟩ := hI
    have tk : kz.take (0 + vs.length) = kz := List.take_of_length_le (by omega)
    rw [tk] at Jz
    rw [Nat.zero_add] at sz
    have hE := rd kA s' Jz
    refine wpAny_bind (listItems_at nk2 rfl ?_)
    refine keyH_end (κ := dataKind s'.heap kz) (h₁ := offH s'.heap kS) (fun b o _ q => ?_) off_same nk2 na2 hka (SortsAt.data hE hal hsk hu) sz hZ fun h3 tk3 c k3 n3 => ?_
    · by_cases hb : b = kS
      · rw [hb, off_same] at q
        cases q
      · rw [off_ne hb] at q
        exact q
    · exact h kA s' h3 tk3 _ c Jz (fun b o hba hbk q => k3 b o hba ((off_ne hbk).trans q)) n3 ⟨s'.heap, kA.toList, hal, rfl, hE⟩
theorem tree_run {n : Nat} (ho : s.heap.get? a = some (seqObj "list" vs.toArray n)) (J0 : J a (s.heap.objs.size + 1) [] #[] { s with heap := sortingHeap s.heap a vs })
    (hlen : kz.length = vs.length) (hZ : vs.length ≤ sizeLine) (hal : AllAlike kz) (hsk : Sortable kz) (hu : ∀ d, d ∈ kz → A.units + d.depth < cLine)
    (turn : TurnK prog w A f vs kz J a (s.heap.objs.size + 1)) (rd : ∀ kA s1, J a (s.heap.objs.size + 1) kz kA s1 → EachIs (fun v d => ∃ as, Reads s1.heap v d as) kA.toList kz)
    (h : ∀ kA s1 h3 tk out c, J a (s.heap.objs.size + 1) kz kA s1 → (∀ b o, b ≠ a → b ≠ s.heap.objs.size + 1 → s1.heap.get? b = some o → h3.get? b = some o) → h3.get? a = some (seqObj "list" (List.toArray out) c) → KeyedOut false kz vs out → P (.done (.ret .none)) { s1 with heap := h3, toks := tk }) :
    wpAny (model prog w) A (ksk_tree a f false) P E s := by
  have hla : a < s.heap.objs.size := Heap.lt_size ho
  obtain ⟨c1, hc1⟩ : ∃ c1, (s.heap.update a (Obj.mapSeq fun _ => (#[] : Array Value))).get? a = some (seqObj "list" #[] c1) := ⟨_, get?_update_seq ho fun _ => #[]⟩
  have sz1 : ((s.heap.update a (Obj.mapSeq fun _ => (#[] : Array Value))).push (seqObj "tuple" vs.toArray 0)).objs.size = s.heap.objs.size + 1 := by rw [size_push', Heap.size_update]
  unfold ksk_tree
  refine wpAny_bind (listItems_at ho rfl (wpAny_bind (listUpdate_at ho rfl ?_ (by rw [List.size_toArray]; exact hZ) (Nat.zero_le _))))
  refine wpAny_bind (seqEpoch_at hc1 rfl (wpAny_bind (wpAny_newTuple ?_ (by show vs.length ≤ _; exact hZ))))
  refine wpAny_bind (wpAny_newList (wpAny_holding ?_) (Nat.zero_le _))
  show wpAny _ _ (ksk_rest a f false vs.toArray _ (.ref ((s.heap.update a (Obj.mapSeq fun _ => (#[] : Array Value))).push (seqObj "tuple" vs.toArray 0)).objs.size)) _ _ { s with heap := sortingHeap s.heap a vs }
  have nk : (sortingHeap s.heap a vs).get? (s.heap.objs.size + 1) = some (seqObj "list" #[] 0) := by
    have := Heap.get?_push_size ((s.heap.update a (Obj.mapSeq fun _ => (#[] : Array Value))).push (seqObj "tuple" vs.toArray 0)) (o := seqObj "list" #[] 0) rfl
    rw [sz1] at this
    exact this
  rw [sz1]
  exact rest_run (J := J) (s := { s with heap := sortingHeap s.heap a vs }) J0 (Nat.ne_of_gt (Nat.lt_succ_of_lt hla)) nk (Heap.get?_push_of_some _ (Heap.get?_push_of_some _ hc1)) hlen hZ hal hsk hu turn rd h
theorem sorted_run {l q : Addr} {β : Type} {R : Value → β → Prop} {bs : List β} {key : β → PyData} {Q : Value → Shared → Prop} (hl : s0.heap.IsList l vs.toArray) (er : EachIs R vs bs) (hZ : bs.length ≤ sizeLine) (hal : AllAlike (bs.map key)) (hsk : Sortable (bs.map key))
    (hu : ∀ x ∈ bs, A.in1.in1.units + (key x).depth < cLine)
    (J0 : ∀ a kS, s0.heap.objs.size ≤ a → a < kS → (∀ b o, s0.heap.get? b = some o → (sortingHeap (copyHeap s0.heap vs) a vs).get? b = some o) → J a kS [] #[] { s0 with heap := sortingHeap (copyHeap s0.heap vs) a vs })
    (turn : ∀ a kS, s0.heap.objs.size ≤ a → a < kS → TurnK prog w A.in1.in1 (.ref q) vs (bs.map key) J a kS) (rd : ∀ a kS kA s1, J a kS (bs.map key) kA s1 → EachIs (fun v d => ∃ as, Reads s1.heap v d as) kA.toList (bs.map key))
    (h : ∀ a kS kA s1 h3 tk out c, s0.heap.objs.size ≤ a → a < kS → J a kS (bs.map key) kA s1 → (∀ b o, b ≠ a → b ≠ kS → s1.heap.get? b = some o → h3.get? b = some o) → h3.get? a = some (seqObj "list" (List.toArray out) c) → EachIs R out (bs.mergeSort (dataLe false key)) → Q (.ref a) { s1 with heap := h3, toks := tk }) :
    wpAny (model prog w) A (call (.builtin "sorted") [.ref l] [(Str.ofString "key", .ref q)]) Q E s0 := by
  have hlen : (bs.map key).length = vs.length := by rw [List.length_map]; exact er.length.symm
  have hat := copyHeap_at s0.heap vs
  have hlt := Heap.lt_size hat
  have g1 : s0.heap.objs.size ≤ s0.heap.objs.size + 1 := Nat.le_succ _
  have g2 : s0.heap.objs.size + 1 < (copyHeap s0.heap vs).objs.size + 1 := Nat.lt_succ_of_lt hlt
  refine sorted_of_sort hl (by rw [er.length]; exact hZ) (ksk_s1 _ _) (fun x => ksk_l1 _ _) fun E' => ?_
  rw [ksk_t1]
  refine tree_run (J := J) (s := { s0 with heap := copyHeap s0.heap vs }) (kz := bs.map key) hat (J0 _ _ g1 g2 fun b o q => sortingHeap_old (fun z => ?_) (copyHeap_old q)) hlen (by rw [er.length]; exact hZ) hal hsk
    (fun d hd => by
      obtain ⟨x, hx, rfl⟩ := List.mem_map.mp hd
      exact hu x hx) (turn _ _ g1 g2) (rd _ _) fun kA s1 h3 tk out c J1 k3 n3 ko => ⟨rfl, h _ _ kA s1 h3 tk out c g1 g2 J1 k3 n3 (keyedOut_each key ko er)⟩
  exact Nat.lt_irrefl _ (Nat.lt_of_lt_of_le (z ▸ Heap.lt_size q) g1)
end
end Mir

set_option Elab.async false
set_option linter.all false
set_option maxRecDepth 100000
namespace Mir
open PySem PySem.Spec PyProof.Rows L2
noncomputable def keyD (F : List W → Sto → Rz W) (s : Sto) (w : W) : PyData := match F [w] s with
  | some (kw, _) => (pyW kw).getD .none
  | none => .none
structure KeysOk (F : List W → Sto → Rz W) (s : Sto) (ws : List W) : Prop where
  get : ∀ w ∈ ws, ∃ kw d, F [w] s = some (kw, s) ∧ pyW kw = some d ∧ d.depth ≤ 60
  al : PySem.W.AllAlike (ws.map (keyD F s))
  so : PySem.W.Sortable (ws.map (keyD F s))
open Classical in
noncomputable def gSortK (F : List W → Sto → Rz W) : W → Sto → Rz W := fun x s => match lstOf x s with
  | some ws => if ws.length ≤ 100000 ∧ KeysOk F s ws then some (.ref s.length, s ++ [.lst (ws.mergeSort (PySem.W.dataLe false (keyD F s)))]) else none
  | none => none
noncomputable def eSortK (fe : FE) (F : List W → Sto → Rz W) : FE := fun ρ s => bd (fe ρ s) (gSortK F)
theorem keyD_at {F : List W → Sto → Rz W} {s : Sto} {w kw : W} {d : PyData} (h : F [w] s = some (kw, s)) (h2 : pyW kw = some d) : keyD F s w = d := by
  unfold keyD
  rw [h]
  show (pyW kw).getD .none = d
  rw [h2]
  rfl
section
variable {X : Cx} {m : List Addr} {H : Hp}
theorem each_rl {K : PySem.W.Frag} : ∀ {us : List Value} {ws : List W}, PySem.W.EachIs (fun v w => ∃ vv, RelV vv v ∧ R K m H w vv) us ws → ∃ vvs, Vals vvs us ∧ RL K m H ws vvs
  | _, _, .nil => ⟨[], .nil, .nil⟩
  | _, _, .cons h t => by
    obtain ⟨v, h1, h2⟩ := h
    obtain ⟨vs, q1, q2⟩ := each_rl t
    exact ⟨v :: vs, .cons h1 q1, .cons h2 q2⟩
theorem rl_each {K : PySem.W.Frag} : ∀ {us : List Value} {ws : List W} {vvs : List V}, Vals vvs us → RL K m H ws vvs → PySem.W.EachIs (fun v w => ∃ vv, RelV vv v ∧ R K m H w vv) us ws
  | _, _, _, .nil, .nil => .nil
  | _, _, _, .cons q1 q2, .cons r1 r2 => .cons ⟨_, q1, r1⟩ (rl_each q2 r2)
theorem hok_but {P : Program} {w : World} {H1 : Hp} {h h' : Heap} {c : Addr} (x : HOk P w H1 h) (hc : H1 c = none) (k : ∀ b o, b ≠ c → h.get? b = some o → h'.get? b = some o) : HOk P w H1 h' := fun b o e => by
  refine (x b o e).stay (fun b' u hb q => k b' u (fun z => ?_) q) (fun _ q => q) fun _ _ q => q
  rw [z] at hb
  rcases hb with hb | hb
  · rw [← hb, hc] at e; cases e
  · rw [hc] at hb; cases hb
theorem un_lt {fs ex : List Addr} {H1 H2 : Hp} {h h1 g : Heap} (u : Un fs ex H1 H2 h h1) (k : ∀ b o, b < h.objs.size → h1.get? b = some o → g.get? b = some o) : Un fs ex H1 H2 h g where
  keep := fun b o e n nf nx => k b o (Heap.lt_size e) (u.keep b o e n nf nx)
  slot := fun b o e n nf nx => by
    obtain ⟨sl, q⟩ := u.slot b o e n nf nx
    exact ⟨sl, k b _ (Heap.lt_size e) q⟩
  free := u.free
  there := fun b o e nx => by
    obtain ⟨o', q⟩ := u.there b o e nx
    exact ⟨o', k b o' (Heap.lt_size e) q⟩
  tups := u.tups
  frzs := u.frzs
  tbls := u.tbls
structure JK (X : Cx) (m : List Addr) (H : Hp) (st : Sto) (s : Shared) (a kS : Addr) (ds : List PyData) (kA : Array Value) (s1 : Shared) (m1 : List Addr) (H1 : Hp) : Prop where
  os : s1.os = s.os
  bare : AllBare s1.gens
  un : Un (frs X.stack) [] H H1 s.heap s1.heap
  ok : HOk X.prog X.w H1 s1.heap
  adv : Adv m H m1 H1
  sr : SR X.K m1 H1 st
  na : H1 a = none
  nk : H1 kS = none
  keys : PySem.W.EachIs (fun u d => ∃ vv kw, RelV vv u ∧ R X.K m1 H1 kw vv ∧ pyW kw = some d) kA.toList ds
def rSortK (K : PySem.W.Frag) (f : Addr) (F : List W → Sto → Rz W) : List V → List V → Hp → VK → Prop := fun vs zs H Q => ∃ m st x v, vs = [v] ∧ zs = [V.ref f] ∧ SR K m H st ∧ R K m H x v ∧ wE K m H (gSortK F x st) Q
theorem cr_sortK {k : Nat} {p : Str} {f : Addr} {fd : FuncData} {F : List W → Sto → Rz W} (h1 : FnOk X.prog X.w X.K X.mg X.base CX0 k f fd [p] (spF X.K 1 F)) (h2 : Binds X.K fd [p] []) (hr : Room (k + 2) X.A) : CallRK X (.builtin "sorted") [Str.ofString "key"] (rSortK X.K f F) := by
  intro pins s σ H vs zs us ws Q I r rz h
  obtain ⟨m, st, x, v, rfl, rfl, S, rx, w0, s', e, q⟩ := h
  unfold gSortK at e
  cases es : lstOf x st with
  | none => rw [es] at e; cases e
  | some xs =>
    rw [es] at e
    by_cases hc : xs.length ≤ 100000 ∧ KeysOk F st xs
    · dsimp only at e
      rw [if_pos hc] at e
      cases e
      obtain ⟨hz, ks⟩ := hc
      obtain ⟨l, vv, rfl, hsq, rl⟩ := lst_of S rx es
      obtain ⟨its, rv, hl, _⟩ := I.list hsq
      obtain rfl := Vals.ref1 r
      obtain ⟨w1, rfl, e1⟩ := vals1 rz
      obtain rfl : w1 = Value.ref f := e1
      have hun := hr.un
      have outF : ∀ b : Addr, s.heap.objs.size ≤ b → b ∉ frs X.stack := fun b hb hm => by
        obtain ⟨_, o, ho, _⟩ := I.stack.mem hm
        exact Nat.lt_irrefl _ (Nat.lt_of_lt_of_le (Heap.lt_size ho) hb)
      have inv1 : ∀ {a kS : Addr} {ds kA s1 m1 H1}, JK X m H st s a kS ds kA s1 m1 H1 → Inv X pins σ H1 s1 := fun j => I.call' j.os j.un j.ok j.bare fun b z => absurd z (by simp)
      refine sorted_run (J := fun a kS ds kA s1 => ∃ m1 H1, JK X m H st s a kS ds kA s1 m1 H1) (bs := xs) (R := fun v w => ∃ vv, RelV vv v ∧ R X.K m H w vv) (key := keyD F st) hl.isList (rl_each rv rl) (Nat.le_trans hz (by decide)) ks.al ks.so
        (fun w hw => ?_) (fun a kS ha hk kp => ?_) (fun a kS ha hk => ?_) (fun a kS kA s1 hJ => ?_) (fun a kS kA s1 h3 tk out c ha hk hJ k3 n3 eo => ?_)
      · obtain ⟨kw, d, g1, g2, g3⟩ := ks.get w hw
        rw [keyD_at g1 g2]
        show X.A.units + 1 + 1 + d.depth < cLine
        omega
      · exact ⟨m, H, rfl, I.bare, .kept kp, I.hok.kept kp, Adv.refl m H, S, I.hok.fresh ha, I.hok.fresh (Nat.le_of_lt (Nat.lt_of_le_of_lt ha hk)), .nil⟩
      · intro i v d hv hd ds kA s1 hJ o1 o2 g1 g2
        obtain ⟨m1, H1, j⟩ := hJ
        rw [List.getElem?_map] at hd
        obtain ⟨w, hw, rfl⟩ := Option.map_eq_some_iff.mp hd
        obtain ⟨kw, d, q1, q2, q3⟩ := ks.get w (List.mem_of_getElem? hw)
        obtain ⟨vv1, rel, rw1⟩ := (rl_each rv rl).zip (v, w) (List.mem_of_getElem? (i := i) (by rw [List.getElem?_zip_eq_some]; exact ⟨hv, hw⟩))
        have I1 := inv1 j
        have fa := outF a ha
        have fk := outF kS (Nat.le_of_lt (Nat.lt_of_le_of_lt ha hk))
        have env : Env0 X.prog X.w X.K X.mg X.base X.A.in1.in1 X.stack s1 H1 := I1.env0.in1.in1
        refine wpAny_call (codeAny_mono (h1.run X.A.in1.in1 X.stack s1 H1 ⟨[v], []⟩ [v] [vv1] (fun v' H' => ∃ m', Adv m1 H1 m' H' ∧ SR X.K m' H' st ∧ R X.K m' H' kw v') E0 hr.in1.in1 env (h2 s1 [v] I1.kIn rfl) (.cons rel .nil)
          ⟨rfl, m1, st, [w], .cons (rw1.adv j.adv) .nil, j.sr, kw, st, q1, fun m' H' v' A' S' r' => ⟨m', A', S', r'⟩⟩) fun res s2 hq => ?_)
        cases res with
        | error e => exact hq.elim
        | ok fl =>
          cases fl with
          | ret u =>
            obtain ⟨v', H', os', bare', un', hok', rel', m', A', S', r'⟩ := hq
            have k' := un'.free kS o1 g1 j.nk (by simp)
            refine ⟨un'.keep kS o1 g1 j.nk fk (by simp), un'.keep a o2 g2 j.na fa (by simp), fun g hg => ⟨m', H', os'.trans j.os, bare', ?_, hok_but hok' k' fun b o hb e => (hg.2 b hb).trans e, j.adv.trans A', S', un'.free a o2 g2 j.na (by simp), k', ?_⟩⟩
            · exact un_lt (j.un.trans un') fun b o hb e => (hg.2 b (fun z => Nat.lt_irrefl _ (Nat.lt_of_lt_of_le (z ▸ hb) (Nat.le_of_lt (Nat.lt_of_le_of_lt ha hk))))).trans e
            · rw [Array.toList_push]
              refine PySem.W.each_snoc ⟨v', kw, rel', r', by rw [keyD_at q1 q2]; exact q2⟩ ?_
              exact j.keys.mono fun y z ⟨yy, yw, z1, z2, z3⟩ => ⟨yy, yw, z1, z2.adv A', z3⟩
          | next => exact hq.elim
          | brk => exact hq.elim
          | cont => exact hq.elim
      · obtain ⟨m1, H1, j⟩ := hJ
        have I1 := inv1 j
        exact j.keys.mono fun y z ⟨yy, yw, z1, z2, z3⟩ => Dp.reads I1 z yy y (dp_of z2 z3) z1
      · obtain ⟨m1, H1, j⟩ := hJ
        obtain ⟨ys, q1, q2⟩ := each_rl eo
        have ha3 : ∀ b o, b < s.heap.objs.size → s1.heap.get? b = some o → h3.get? b = some o := fun b o hb e => k3 b o (fun z => Nat.lt_irrefl _ (Nat.lt_of_lt_of_le (z ▸ hb) ha)) (fun z => Nat.lt_irrefl _ (Nat.lt_of_lt_of_le (z ▸ hb) (Nat.le_of_lt (Nat.lt_of_le_of_lt ha hk)))) e
        have u3 := un_lt j.un ha3
        have ok3 : HOk X.prog X.w (upd H1 a (.lst ys)) h3 := fun b o e => by
          by_cases hb : b = a
          · subst hb
            rw [upd_same] at e
            cases e
            have len : ys.length ≤ sizeLine := by
              have l1 := q2.len
              rw [List.length_mergeSort] at l1
              exact Nat.le_trans (by omega) (show 100000 ≤ sizeLine by decide)
            exact ⟨len, out, c, q1, n3⟩
          · rw [upd_ne hb] at e
            refine (j.ok b o e).stay (fun b' u hb' q => k3 b' u (fun z => ?_) (fun z => ?_) q) (fun b' q => by rw [upd_ne (ne_of_none q j.na)]; exact q) fun b' xs q => by rw [upd_ne (ne_of_none q j.na)]; exact q
            · rcases hb' with hb' | hb'
              · exact hb (hb'.symm.trans z)
              · rw [z, j.na] at hb'; cases hb'
            · rcases hb' with hb' | hb'
              · rw [← hb', z, j.nk] at e; cases e
              · rw [z, j.nk] at hb'; cases hb'
        have un3 : Un (frs X.stack) [] H (upd H1 a (.lst ys)) s.heap h3 := { u3 with
          free := fun b o e n nx => by
            have hba : b ≠ a := fun z => by
              rw [z] at e
              exact Nat.lt_irrefl _ (Nat.lt_of_lt_of_le (Heap.lt_size e) ha)
            rw [upd_ne hba]
            exact u3.free b o e n nx
          tups := fun b xs e => by
            rw [upd_ne (ne_of_none (u3.tups b xs e) j.na)]
            exact u3.tups b xs e
          frzs := fun b o u e => by
            rw [upd_ne (ne_of_none (u3.frzs b o u e) j.na)]
            exact u3.frzs b o u e
          tbls := fun b ps e => by
            obtain ⟨more, q⟩ := u3.tbls b ps e
            exact ⟨more, by rw [upd_ne (ne_of_none q j.na)]; exact q⟩ }
        have I3 : Inv X pins σ (upd H1 a (.lst ys)) { s1 with heap := h3, toks := tk } := I.call' (s' := { s1 with heap := h3, toks := tk }) j.os un3 ok3 j.bare fun b z => absurd z (by simp)
        refine ⟨.ref a, _, I3, rfl, new_lst j.sr (q2.adv j.adv) j.na fun m' H' v' A' S' r' => q m' H' v' (j.adv.trans A') S' r'⟩
    · dsimp only at e
      rw [if_neg hc] at e
      cases e
theorem m_sortK {k : Nat} {y : Str} {p0 : Str} {F : List W → Sto → Rz W} {fe : FE} {e : Expr} {p q kp pos : Pos} (O : Own X.prog X.w X.K X.mg X.base k y [p0] F) (hr : Room (k + 2) X.A) (hg : Gl X "sorted") (hm : X.mg "sorted" = none) (hy : Gl X y) (he : PE X e (tF X.K fe)) (hdy : (y == ("__debug__" : Str)) = false := by decide)
    (hs : starEach [e] X.env = (false, eval e X.env) :: starEach [] X.env := by rfl) (hst : backTo pos (starEach [e] X.env) = (false, eval e X.env) :: backTo pos (starEach [] X.env) := by rfl) (hpl : (backTo pos (starEach [e] X.env)).any (·.1) = false := by rfl) :
    PE X (.Call (.Name "sorted" p) [e] [⟨some "key", .Name y q, kp⟩] pos) (tF X.K (eSortK fe F)) := by
  obtain ⟨f, fd, h1, h2, h3, h4⟩ := O.ex
  refine (pe_callBK (cr_sortK h1 h2 hr) hg hm rfl (pa_cons he pa_nil hs) (pk_cons (pe_glob (v := .ref f) hy h4 rfl hdy) pk_nil) (by decide) (by decide) hst hpl rfl rfl rfl).imp fun σ H Q ⟨m, ρ, s, er, sr, w, s', e0, q⟩ => ?_
  obtain ⟨x, s1, e1, e2⟩ := bd_inv e0
  exact ⟨m, ρ, s, er, sr, x, s1, e1, fun m1 H1 v A1 S1 r1 => ⟨m1, s1, x, v, rfl, rfl, S1, r1, w, s', e2, fun m2 H2 v2 A2 => q m2 H2 v2 (A1.trans A2)⟩⟩
end
end Mir

set_option Elab.async false
set_option linter.all false
set_option maxRecDepth 100000
namespace Mir
open PySem PySem.Spec PyProof.Rows L2
def gDvT : W → Sto → Rz W := fun x s => match dtOf x s with
  | some (_, kvs) => if kvs.length ≤ 100000 then some (.ref s.length, s ++ [.lst (kvs.map (·.2))]) else none
  | none => none
def eDvT (fe : FE) : FE := fun ρ s => bd (fe ρ s) gDvT
section
variable {X : Cx}
theorem call_values_raw {prog : Program} {w : World} {A : Around} {E : Value → Shared → Prop} {s : Shared} {d : Addr} {Q : Value → Shared → Prop} (ht : s.TypeIs (.ref d) "dict") (hd : (d == sysModules) = false) (h : Q (.ref s.heap.objs.size) { s with heap := s.heap.push { cls := .type "dict_values", data := .fields #[.ref d] } }) :
    wpAny (model prog w) A (call (.builtin "dict.values") [.ref d]) Q E s := by
  refine wpAny_call_entry F.slot_dict_values ht F.entry_dict_values ?_ (F.args_dict_values_1 _)
  refine wpAny_bind ?_
  unfold Builtin.Dict.noArgs
  refine wpAny_bind (wpAny_notOrdered_dict ht (wpAny_pure ?_))
  show wpAny _ _ (Builtin.Dict.showsAll d >>= _) _ _ s
  unfold Builtin.Dict.showsAll
  rw [if_neg (by simp [hd])]
  refine wpAny_bind (wpAny_pure (wpAny_bind (wpAny_newObj_type (wpAny_pure ?_))))
  exact ⟨_, rfl, h⟩
theorem rkt_vals {K : PySem.W.Frag} {m : List Addr} {H : Hp} : ∀ {kvs : List (List Key × W)} {vs : List (List Key × V)}, RKT K m H kvs vs → RL K m H (kvs.map (·.2)) (vs.map (·.2))
  | _, _, .nil => .nil
  | _, _, .cons h t => .cons h (rkt_vals t)
theorem kt_vals {H : Hp} : ∀ {kvs : List (List Key × V)} {xs : List (List Key × Addr × Value)}, Paired (fun (p : List Key × V) (q : List Key × Addr × Value) => p.1 = q.1 ∧ H q.2.1 = some (.tup (p.1.map kV)) ∧ RelV p.2 q.2.2) kvs xs → Vals (kvs.map (·.2)) (xs.map (·.2.2))
  | _, _, .nil => .nil
  | _, _, .cons h t => .cons h.2.2 (kt_vals t)
theorem m_dvt {fe : FE} {o : Expr} {p pos apos mpos : Pos} (hc : X.calm = true) (hg : Gl X "list") (hm : X.mg "list" = none) (hd : PE X o (tF X.K fe)) (hbase : attributeBase o "values" X.env (eval o X.env) = eval o X.env := by rfl) (hline : (apos.endLine == mpos.line) = true := by rfl)
    (hse : starEach [Expr.Call (.Attribute o "values" apos) [] [] mpos] X.env = [(false, eval (Expr.Call (.Attribute o "values" apos) [] [] mpos) X.env)] := by rfl) :
    PE X (.Call (.Name "list" p) [.Call (.Attribute o "values" apos) [] [] mpos] [] pos) (tF X.K (eDvT fe)) := by
  refine ⟨fun pins s σ H Q I h => ?_⟩
  obtain ⟨m, ρ, st, er, sr, w, s', e0, q⟩ := h
  obtain ⟨x, s1, e1, e2⟩ := bd_inv e0
  unfold gDvT at e2
  cases ed : dtOf x s1 with
  | none => rw [ed] at e2; cases e2
  | some pr =>
    obtain ⟨n, kvs⟩ := pr
    rw [ed] at e2
    by_cases hz : kvs.length ≤ 100000
    · dsimp only at e2
      rw [if_pos hz] at e2
      cases e2
      refine wpAny_Call_Name_kw (ld_blt I hg hm (u := .type "list") (by first | rfl | decide +kernel) ?_ (by first | decide +kernel | decide) (by first | decide +kernel | decide))
      rw [hse]
      refine PySem.callWith_type1 (wpAny_Call_method0_late hbase hline (thn (hd.run pins s σ H (fun v H1 => ∃ m1, Adv m H m1 H1 ∧ SR X.K m1 H1 s1 ∧ R X.K m1 H1 x v) I ⟨m, ρ, st, er, sr, x, s1, e1, fun m1 H1 v A1 S1 r1 => ⟨m1, A1, S1, r1⟩⟩) fun v sh ⟨xv, H1, I1, r1, m1, A1, S1, rx⟩ => ?_))
      obtain ⟨a, vs, rfl, ha, hn, hH, rk⟩ := dt_of S1 rx ed
      obtain rfl : v = Value.ref a := r1
      obtain ⟨hlen, hsys, xs, pr, ob, es, ep, ho, ex, hdat, hes, hnd⟩ := I1.hok a _ hH
      refine ⟨"dict", "dict.values", F.plainAttrs_dict, F.slot_dict_values, F.type_dict_values, ⟨ob, ho, ex.1⟩, fun b e => ?_, Calls.callWith_builtin rfl (PySem.evalArgs_none ?_)⟩
      · cases e
        exact ⟨ob, ho, ex.2.1⟩
      refine call_values_raw ⟨ob, ho, ex.1⟩ hsys ?_
      have raw : (sh.heap.push { cls := .type "dict_values", data := .fields #[.ref a] }).DictRaw a es ep := ⟨ob, Heap.get?_push_of_some _ ho, ex, hdat⟩
      have hsz : es.size = xs.length := size_of_entries hes
      have hxs : xs.length = vs.length := pr.length.symm
      refine PySem.W.kdl_call (PySem.KdlSrc.rawValues (r := sh.heap.objs.size) (d := a) (es := es) (ep := ep)) (I1.ok.hd hc) ⟨⟨_, Heap.get?_push_size _ rfl, rfl, rfl⟩, raw⟩ (by rw [hsz, hxs]; exact hlen) fun h' tk acc c hk hl hacc => ?_
      have ea : acc.toList = xs.map (·.2.2) := by
        refine List.ext_getElem (by rw [Array.length_toList, List.length_map, hacc.1, hsz]) fun j h1 h2 => ?_
        rw [Array.length_toList] at h1
        rw [List.length_map] at h2
        obtain ⟨hi, e3⟩ := hacc.2 j acc[j] (Array.getElem?_eq_getElem h1)
        have e4 := entry_at hes j
        rw [Array.getElem?_eq_getElem hi, List.getElem?_eq_getElem h2] at e4
        have e5 := Option.some.inj e4
        rw [Array.getElem_toList, List.getElem_map, e3, e5]
        rfl
      have k1 : ∀ b u, sh.heap.get? b = some u → h'.get? b = some u := fun b u e => hk b u (Heap.get?_push_of_some _ e)
      have hp : sh.heap.objs.size ≤ (sh.heap.push { cls := .type "dict_values", data := .fields #[.ref a] }).objs.size := by rw [size_push']; exact Nat.le_succ _
      have lv : (vs.map (·.2)).length ≤ sizeLine := by rw [List.length_map]; exact hlen
      refine ⟨.ref _, _, I1.laid (o := .lst (vs.map (·.2))) (t' := tk) k1 hp ⟨lv, acc.toList, c, by rw [ea]; exact kt_vals pr, by rw [Array.toArray_toList]; exact hl⟩, rfl, ?_⟩
      exact new_lst S1 (rkt_vals rk) (I1.hok.fresh hp) fun m' H' v' A' S' r' => q m' H' v' (A1.trans A') S' r'
    · dsimp only at e2
      rw [if_neg hz] at e2
      cases e2
end
end Mir

set_option Elab.async false
set_option linter.all false
set_option maxRecDepth 100000
namespace Mir
open PySem PySem.Spec PyProof.Rows L2
def datW (w : W) : PyData := (pyW w).getD .none
structure DatOk (ws : List W) : Prop where
  get : ∀ w ∈ ws, ∃ d, pyW w = some d ∧ d.depth ≤ 60
  al : PySem.W.AllAlike (ws.map datW)
  so : PySem.W.Sortable (ws.map datW)
open Classical in
noncomputable def gSortT : List W → Sto → Rz W := fun ws s => match ws with
  | [x] => match lstOf x s with
    | some xs => if xs.length ≤ 100000 ∧ DatOk xs then some (.ref s.length, s ++ [.lst (xs.mergeSort (PySem.W.dataLe false datW))]) else none
    | none => none
  | _ => none
section
variable {X : Cx}
def rSortT (K : PySem.W.Frag) : List V → Hp → VK → Prop := fun vs H Q => ∃ m st x v, vs = [v] ∧ SR K m H st ∧ R K m H x v ∧ wE K m H (gSortT [x] st) Q
theorem f_sortT {K : PySem.W.Frag} : CallF K (rSortT K) gSortT := by
  intro m H s ws vs Q S r h
  cases r with
  | nil => exact nopeE h
  | @cons x v ws vs r1 r2 =>
    cases r2 with
    | cons _ _ => exact nopeE h
    | nil => exact ⟨m, s, x, v, rfl, S, r1, h⟩
theorem cr_sortT (hu : X.A.units + 65 < cLine) : CallR X (.builtin "sorted") (rSortT X.K) := by
  intro pins s σ H vs us Q I r h
  obtain ⟨m, st, x, v, rfl, S, rx, w0, s', e, q⟩ := h
  unfold gSortT at e
  cases es : lstOf x st with
  | none => simp only [es] at e; cases e
  | some xs =>
    simp only [es] at e
    by_cases hc : xs.length ≤ 100000 ∧ DatOk xs
    · rw [if_pos hc] at e
      cases e
      obtain ⟨hz, ks⟩ := hc
      obtain ⟨l, vv, rfl, hsq, rl⟩ := lst_of S rx es
      obtain ⟨its, rv, hl, _⟩ := I.list hsq
      obtain rfl := Vals.ref1 r
      have er := rl_each (m := m) (H := H) rv rl
      have ed : PySem.W.EachIs (fun v w => ∃ as, Reads s.heap v (datW w) as) its xs := by
        refine PySem.W.EachIs.of_zip er.length fun p hp => ?_
        obtain ⟨yy, z1, z2⟩ := er.zip p hp
        obtain ⟨d, g1, g2⟩ := ks.get p.2 (List.of_mem_zip hp).2
        have : datW p.2 = d := by unfold datW; rw [g1]; rfl
        rw [this]
        exact Dp.reads I d yy p.1 (dp_of z2 g1) z1
      refine PySem.W.sorted_data (R := fun v w => ∃ vv, RelV vv v ∧ R X.K m H w vv) (enc := datW) (bs := xs) hl.isList er ed ks.al ks.so (Nat.le_trans hz (by decide)) (fun w hw => ?_) fun out _ ee => ?_
      · obtain ⟨d, g1, g2⟩ := ks.get w hw
        have : datW w = d := by unfold datW; rw [g1]; rfl
        rw [this]
        show X.A.units + 1 + 1 + d.depth < cLine
        omega
      · obtain ⟨ys, q1, q2⟩ := each_rl ee
        obtain ⟨ep, he'⟩ := PyProof.Rows.sortedAll_at s.heap its out.toArray
        have len : ys.length ≤ sizeLine := by
          have l1 := q2.len
          rw [List.length_mergeSort] at l1
          exact Nat.le_trans (by omega) (show 100000 ≤ sizeLine by decide)
        refine ⟨.ref _, _, I.laid (o := .lst ys) (t' := s.toks) (fun _ _ => PyProof.Rows.sortedAll_old) (Nat.le_succ _) ⟨len, out, ep, q1, he'⟩, rfl, ?_⟩
        exact new_lst S q2 (I.hok.fresh (Nat.le_succ _)) q
    · rw [if_neg hc] at e
      cases e
end
end Mir

set_option Elab.async false
set_option linter.all false
set_option maxRecDepth 100000
namespace Mir
open PySem PySem.Spec PyProof.Rows L2
def frtOf (x : W) (s : Sto) : Option (List (List Key × W)) := match x with
  | .ref n => match s[n]? with
    | some (.frt kvs) => some kvs
    | _ => none
  | _ => none
def fiKeysT (l : Nat) : FI := fun ρ s => match ρ[l]? with
  | some (some x) => match frtOf x s with
    | some kvs => some ((kvs.map (fun kv => W.tup (kv.1.map kW)), none), s)
    | none => none
  | _ => none
noncomputable def lkET (l : Nat) (f : FE) : FE := fun ρ s => match ρ[l]? with
  | some (some x) => match dtOf x s with
    | some (n, kvs) => bd (f ρ (s.set n (.frt kvs))) fun w s1 => match s1[n]? with
      | some (.frt kvs') => some (w, s1.set n (.dtt kvs'))
      | _ => none
    | none => none
  | _ => none
noncomputable def lkST (l : Nat) (f : FS) : FS := fun ρ s => match ρ[l]? with
  | some (some x) => match dtOf x s with
    | some (n, kvs) => bd (f ρ (s.set n (.frt kvs))) fun o s1 => match s1[n]? with
      | some (.frt kvs') => some (o, s1.set n (.dtt kvs'))
      | _ => none
    | none => none
  | _ => none
def eTgetW (d k : FE) : FE := fun ρ s => bd (d ρ s) fun x s1 => bd (k ρ s1) fun y s2 => match frtOf x s2, y with
  | some kvs, .tup ws => match keysW ws with
    | some k => match lookT kvs k with
      | some w => some (w, s2)
      | none => none
    | none => none
  | _, _ => none
section
variable {K : PySem.W.Frag} {m m1 : List Addr} {H H1 : Hp}
theorem frt_of {s : Sto} {x : W} {v : V} {kvs : List (List Key × W)} (S : SR K m H s) (r : R K m H x v) (h : frtOf x s = some kvs) : ∃ n a o vs, x = .ref n ∧ v = .ref a ∧ m[n]? = some a ∧ s[n]? = some (.frt kvs) ∧ H a = some (.frz o (.dT vs)) ∧ RKT K m H kvs vs := by
  unfold frtOf at h
  cases r with
  | @ref n a h1 =>
    simp only at h
    split at h
    · rename_i kvs' e
      cases h
      obtain ⟨o, vs, q, r⟩ := S.ok n a _ h1 e
      exact ⟨n, a, o, vs, rfl, rfl, h1, e, q, r⟩
    · cases h
  | _ => cases h
theorem lock_inT {s : Sto} {n : Nat} {a : Addr} {od : Obj} {vs : List (List Key × V)} {kvs : List (List Key × W)} (S : SR K m H s) (hn : m[n]? = some a) (b1 : H a = some (.dT vs)) (rk : RKT K m H kvs vs) :
    Adv m H m (upd H a (.frz od (.dT vs))) ∧ SR K m (upd H a (.frz od (.dT vs))) (s.set n (.frt kvs)) := by
  have A : Adv m H m (upd H a (.frz od (.dT vs))) := Adv.writeT S hn ⟨_, b1⟩
  exact ⟨A, S.writeT hn ⟨_, b1⟩ ⟨od, vs, upd_same, rk.adv A⟩⟩
theorem kWs_R {H : Hp} : ∀ ks : List Key, RL K m H (ks.map kW) (ks.map kV)
  | [] => .nil
  | k :: r => .cons (kW_R k) (kWs_R r)
theorem RKT.at : ∀ {ws : List (List Key × W)} {vs : List (List Key × V)}, RKT K m H ws vs → ∀ {i : Nat} {k : List Key} {v : V}, vs[i]? = some (k, v) → ∃ w, ws[i]? = some (k, w)
  | _, _, .nil, i, _, _, e => by simp at e
  | _, _, .cons h t, 0, k, v, e => by cases e; exact ⟨_, rfl⟩
  | _, _, .cons h t, i + 1, k, v, e => RKT.at t (i := i) (by simpa using e)
theorem lock_outT {s s1 : Sto} {n : Nat} {a : Addr} {od : Obj} {vs : List (List Key × V)} {kvs' : List (List Key × W)} (S : SR K m H s) (hn : m[n]? = some a) (b1 : H a = some (.dT vs))
    (A1 : Adv m (upd H a (.frz od (.dT vs))) m1 H1) (S1 : SR K m1 H1 s1) (h1 : s1[n]? = some (.frt kvs')) :
    H1 a = some (.frz od (.dT vs)) ∧ Adv m H m1 (upd H1 a (.dT vs)) ∧ SR K m1 (upd H1 a (.dT vs)) (s1.set n (.dtt kvs')) ∧ ExtW m1 H1 m1 (upd H1 a (.dT vs)) := by
  have hF : H1 a = some (.frz od (.dT vs)) := A1.frz _ _ _ upd_same
  have hn1 : m1[n]? = some a := A1.get hn
  have ha : a ∈ m := List.mem_of_getElem? hn
  have E : ExtW m1 H1 m1 (upd H1 a (.dT vs)) := by
    refine ⟨⟨[], by simp⟩, fun b xs e => ?_, fun b o xs e => ?_⟩
    · rw [upd_ne (fun z => by rw [z, hF] at e; cases e)]; exact e
    · rw [upd_ne (fun z => by rw [z, hF] at e; cases e)]; exact e
  have A : Adv m H m1 (upd H1 a (.dT vs)) := by
    refine ⟨A1.pre, fun b o e n => ?_, fun b h => ?_, fun b xs e => ?_, fun b o u e => ?_⟩
    · have hb : b ≠ a := fun z => n (by rw [z]; exact ha)
      rw [upd_ne hb]
      exact A1.same b o (by rw [upd_ne hb]; exact e) n
    · rcases A1.new b h with h | h
      · exact .inl h
      · by_cases hb : b = a
        · rw [hb, upd_same] at h; cases h
        · rw [upd_ne hb] at h; exact .inr h
    · have hb : b ≠ a := fun z => by rw [z, b1] at e; cases e
      rw [upd_ne hb]
      exact A1.tup b xs (by rw [upd_ne hb]; exact e)
    · have hb : b ≠ a := fun z => by rw [z, b1] at e; cases e
      rw [upd_ne hb]
      exact A1.frz b o u (by rw [upd_ne hb]; exact e)
  refine ⟨hF, A, ⟨by rw [List.length_set]; exact S1.len, S1.nd, fun j b o g1 g2 => ?_⟩, E⟩
  by_cases e : n = j
  · subst e
    rw [hn1] at g1
    cases g1
    have hl : n < s1.length := (List.getElem?_eq_some_iff.mp h1).1
    rw [List.getElem?_set_self hl] at g2
    cases g2
    obtain ⟨o', vs', q, r⟩ := S1.ok n a _ hn1 h1
    rw [hF] at q
    cases q
    exact ⟨vs, upd_same, r.extW E⟩
  · rw [List.getElem?_set_ne e] at g2
    have hne : b ≠ a := fun z => by
      subst z
      obtain ⟨l1, e1⟩ := List.getElem?_eq_some_iff.mp hn1
      obtain ⟨l2, e2⟩ := List.getElem?_eq_some_iff.mp g1
      rcases Nat.lt_or_gt_of_ne e with h | h
      · exact (List.pairwise_iff_getElem.mp S1.nd) _ _ l1 l2 h (by rw [e1, e2])
      · exact (List.pairwise_iff_getElem.mp S1.nd) _ _ l2 l1 h (by rw [e1, e2])
    have q := S1.ok j b o g1 g2
    have ne : ∀ {c : Addr} {o : Obj} {u : HO}, H1 c = some (.frz o u) → (∀ ws, u ≠ .dT ws) → c ≠ a := fun e1 e2 z => by
      subst z
      rw [hF] at e1
      cases e1
      exact e2 _ rfl
    have cd : ∀ {c : Addr} {q : Str}, CodeP H1 c q → CodeP (upd H1 a (.dT vs)) c q := fun ⟨oc, u, us, t, z1, z2, z3, z4⟩ => ⟨oc, u, us, t, by rw [upd_ne (ne z1 z4.2)]; exact z1, z2, z3, z4⟩
    cases o with
    | lst ws => obtain ⟨ws', q, r⟩ := q; exact ⟨ws', by rw [upd_ne hne]; exact q, r.extW E⟩
    | dct ws => obtain ⟨ws', q, r⟩ := q; exact ⟨ws', by rw [upd_ne hne]; exact q, r.extW E⟩
    | dtt ws => obtain ⟨ws', q, r⟩ := q; exact ⟨ws', by rw [upd_ne hne]; exact q, r.extW E⟩
    | frd ws => obtain ⟨o', ws', q, r⟩ := q; exact ⟨o', ws', by rw [upd_ne hne]; exact q, r.extW E⟩
    | frt ws => obtain ⟨o', ws', q, r⟩ := q; exact ⟨o', ws', by rw [upd_ne hne]; exact q, r.extW E⟩
    | ins _ _ => obtain ⟨o', dx', ws', q, nn, r⟩ := q; exact ⟨o', dx', ws', by rw [upd_ne hne]; exact q, nn, r.extW E⟩
    | dead => obtain ⟨o', q, r⟩ := q; exact ⟨o', by rw [upd_ne hne]; exact q, r⟩
    | tab P q' =>
      obtain ⟨rfl, ps, z1, z2, z3⟩ := q
      refine ⟨rfl, ps, by rw [upd_ne hne]; exact z1, z2, fun pos cv hc => ?_⟩
      obtain ⟨c, e1, e2⟩ := z3 pos cv hc
      exact ⟨c, e1, cd e2⟩
    | lam L c =>
      obtain ⟨cl, c', pm, ctv, cvs, z1, z2, z3, z4⟩ := q
      refine ⟨cl, c', pm, ctv, cvs, by rw [upd_ne hne]; exact z1, cd z2, ⟨z3.len, z3.dom, z3.inj, fun i y e => ?_⟩, z4.extW E⟩
      obtain ⟨k, ok, uv, v, y1, y2, y3, y4⟩ := z3.at_ i y e
      exact ⟨k, ok, uv, v, y1, y2, by rw [upd_ne (ne y3 (fun ws e => by cases e))]; exact y3, y4⟩
theorem pikT_of {l : Nat} {σ : List (Option V)} {R' : It → Hp → Prop} (h : tI K (fiKeysT l) σ H R') : iKeys (tVar l) σ H R' := by
  obtain ⟨m, ρ, s, er, sr, xs, c, s', e, q⟩ := h
  unfold fiKeysT at e
  cases g1 : ρ[l]? with
  | none => simp only [g1] at e; cases e
  | some o1 =>
  cases o1 with
  | none => simp only [g1] at e; cases e
  | some x =>
  simp only [g1] at e
  cases c1 : frtOf x s with
  | none => simp only [c1] at e; cases e
  | some kvs =>
  simp only [c1] at e
  cases e
  obtain ⟨v, t1, w1⟩ := er.get g1
  obtain ⟨n, a, o, vs, rfl, rfl, m1, _, b1, rk⟩ := frt_of sr w1 c1
  refine ⟨.ref a, t1, a, o, rfl, .inr ⟨vs, b1, q m H _ (Adv.refl m H) sr ⟨fun m2 H2 s2 i x A2 S2 _ hx => ?_, fun m2 H2 s2 A2 S2 _ => ?_⟩⟩⟩
  · have hF := A2.frz _ _ _ b1
    rw [List.getElem?_map] at hx
    cases ek : kvs[i]? with
    | none => rw [ek] at hx; cases hx
    | some kv =>
      rw [ek] at hx
      cases hx
      have hi : i < vs.length := by rw [rk.len]; exact (List.getElem?_eq_some_iff.mp ek).1
      refine ⟨⟨hF, hi⟩, fun v H' hy => ?_⟩
      obtain ⟨rfl, k, v', qa, hk, rfl, hq⟩ := hy
      obtain ⟨w, hw⟩ := rk.at hk
      rw [ek] at hw
      cases hw
      exact ⟨m2, Adv.refl _ _, S2, .tup (.inl hq) (kWs_R k)⟩
  · exact ⟨A2.frz _ _ _ b1, by rw [rk.len, List.length_map]; exact Nat.le_refl _⟩
end
section
variable {X : Cx} {pos : Pos}
theorem mi_keysT (l : Nat) {tg : Expr} {x : Str} {p : Pos} (hN : X.N[l]? = some x := by rfl) (hv : Vis X.env.scope x := by first | exact Or.inl rfl | exact Or.inr (Or.inl rfl) | exact Or.inr (Or.inr rfl)) (hd : (x == ("__debug__" : Str)) = false := by decide) (hcd : (x == ("__classdict__" : Str)) = false := by decide) : PI X tg (.Name x p) (tI X.K (fiKeysT l)) := (pi_keys (pe_var hN hv hd hcd)).imp fun σ H Q h => pikT_of h
theorem m_lkET {l : Nat} {e : Expr} {f : FE} (h : PE X e (tF X.K f)) : PE X e (tF X.K (lkET l f)) := (pe_lock h).imp fun σ H Q ⟨m, ρ, s, er, sr, w, s', e, q⟩ => by
  unfold lkET at e
  cases g1 : ρ[l]? with
  | none => simp only [g1] at e; cases e
  | some o1 =>
  cases o1 with
  | none => simp only [g1] at e; cases e
  | some x =>
  simp only [g1] at e
  cases c1 : dtOf x s with
  | none => simp only [c1] at e; cases e
  | some z1 =>
  obtain ⟨n, kvs⟩ := z1
  simp only [c1] at e
  obtain ⟨w1, s1, e1, e⟩ := bd_inv e
  split at e
  · rename_i kvs' e2
    cases e
    obtain ⟨u1, t1, r1⟩ := er.get g1
    obtain ⟨a, vs, rfl, m1, _, b1, rk1⟩ := dt_of sr r1 c1
    refine ⟨a, .dT vs, b1, trivial, fun od => ?_⟩
    obtain ⟨A0, S0⟩ := lock_inT (od := od) sr m1 b1 rk1
    refine ⟨m, ρ, _, er.adv A0, S0, _, s1, e1, fun m2 H2 v A2 S2 r2 => ?_⟩
    obtain ⟨k1, k2, k3, k4⟩ := lock_outT sr m1 b1 A2 S2 e2
    exact ⟨k1, q _ _ _ k2 k3 (r2.extW k4)⟩
  · cases e
theorem ms_lkT {l : Nat} {st : Stmt} {f : FS} (h : PS X st (tS X.K f)) : PS X st (tS X.K (lkST l f)) := (ps_lock h).imp fun D σ H ⟨m, ρ, s, er, sr, o, s', e, q⟩ => by
  unfold lkST at e
  cases g1 : ρ[l]? with
  | none => simp only [g1] at e; cases e
  | some o1 =>
  cases o1 with
  | none => simp only [g1] at e; cases e
  | some x =>
  simp only [g1] at e
  cases c1 : dtOf x s with
  | none => simp only [c1] at e; cases e
  | some z1 =>
  obtain ⟨n, kvs⟩ := z1
  simp only [c1] at e
  obtain ⟨o1, s1, e1, e⟩ := bd_inv e
  split at e
  · rename_i kvs' e2
    cases e
    obtain ⟨u1, t1, r1⟩ := er.get g1
    obtain ⟨a, vs, rfl, m1, _, b1, rk1⟩ := dt_of sr r1 c1
    refine ⟨a, .dT vs, b1, trivial, fun od => ?_⟩
    obtain ⟨A0, S0⟩ := lock_inT (od := od) sr m1 b1 rk1
    refine ⟨m, ρ, _, er.adv A0, S0, _, s1, e1, ?_⟩
    have key : ∀ {m2 H2} (A2 : Adv m (upd H a (.frz od (.dT vs))) m2 H2) (S2 : SR X.K m2 H2 s1), _ := fun {m2 H2} A2 S2 => lock_outT sr m1 b1 A2 S2 e2
    cases o with
    | nx ρ' => intro m2 H2 σ' A2 S2 r2; exact ⟨(key A2 S2).1, q _ _ _ (key A2 S2).2.1 (key A2 S2).2.2.1 (r2.extW (key A2 S2).2.2.2)⟩
    | bk ρ' => intro m2 H2 σ' A2 S2 r2; exact ⟨(key A2 S2).1, q _ _ _ (key A2 S2).2.1 (key A2 S2).2.2.1 (r2.extW (key A2 S2).2.2.2)⟩
    | ct ρ' => intro m2 H2 σ' A2 S2 r2; exact ⟨(key A2 S2).1, q _ _ _ (key A2 S2).2.1 (key A2 S2).2.2.1 (r2.extW (key A2 S2).2.2.2)⟩
    | rt w => intro m2 H2 v A2 S2 r2; exact ⟨(key A2 S2).1, q _ _ _ (key A2 S2).2.1 (key A2 S2).2.2.1 (r2.extW (key A2 S2).2.2.2)⟩
  · cases e
theorem m_tgetW {o e : Expr} {fd fk : FE} (hu : X.A.units + 1 < cLine) (ho : PE X o (tF X.K fd)) (he : PE X e (tF X.K fk)) (hs : NoSl e) : PE X (.Subscript o e pos) (tF X.K (eTgetW fd fk)) := by
  refine ⟨fun pins s σ H Q I h => ?_⟩
  obtain ⟨m, ρ, st, er, sr, w, s', e0, q⟩ := h
  obtain ⟨x, s1, e1, e0⟩ := bd_inv e0
  obtain ⟨y, s2, e2, e0⟩ := bd_inv e0
  cases ed : frtOf x s2 with
  | none => simp only [ed] at e0; cases e0
  | some kvs =>
    cases y with
    | tup ws =>
      cases ek : keysW ws with
      | none => simp only [ed, ek] at e0; cases e0
      | some k =>
        simp only [ed, ek] at e0
        cases el : lookT kvs k with
        | none => simp only [el] at e0; cases e0
        | some w' =>
          simp only [el] at e0
          cases e0
          refine subD_of PySem.F.slot_dict_getitem.lookup hs (thn (ho.run pins s σ H (fun v H1 => ∃ m1, Adv m H m1 H1 ∧ SR X.K m1 H1 s1 ∧ R X.K m1 H1 x v) I ⟨m, ρ, st, er, sr, x, s1, e1, fun m1 H1 v A1 S1 r1 => ⟨m1, A1, S1, r1⟩⟩) fun u sh ⟨xv, H1, I1, rx, m1, A1, S1, r1⟩ =>
            thn (he.run pins sh σ H1 (fun v H2 => ∃ m2, Adv m1 H1 m2 H2 ∧ SR X.K m2 H2 s' ∧ R X.K m2 H2 (.tup ws) v) I1 ⟨m1, ρ, s1, er.adv A1, S1, W.tup ws, s', e2, fun m2 H2 v A2 S2 r2 => ⟨m2, A2, S2, r2⟩⟩) fun iv sh2 ⟨yv, H2, I2, ry, m2, A2, S2, r2⟩ => ?_)
          obtain ⟨n, a, od, vs, rfl, rfl, hm, hs2, hd, rk⟩ := frt_of S2 (r1.adv A2) ed
          obtain ⟨v', hv, rv⟩ := (rk.look (k := k)).1 _ el
          obtain rfl : u = Value.ref a := rx
          cases r2 with
          | @tup b us _ tu r2 =>
            obtain rfl : iv = Value.ref b := ry
            have hy := keys_of r2 ek
            subst hy
            obtain ⟨its, rt, ⟨ob, h1, h2, nn, h3⟩, _⟩ := I2.tuple tu.sq
            have his : (tupleKind (mixKind X.prog X.w)).is sh2.heap k b := ⟨ob, its.toArray, nn, h1, h2, h3, by simpa using items_are rt⟩
            obtain ⟨z, hsys, xs, rel, dd⟩ := dt_rd I2.hok (a := a) (kvs := vs) (.inr ⟨od, hd⟩)
            obtain ⟨w2, hw, rw2⟩ := RelO.some_of (v := v') (o := (atKey xs k).map (·.2)) (by rw [← hv]; exact rel.val k)
            obtain ⟨p, hp, hp2⟩ := Option.map_eq_some_iff.mp hw
            refine ⟨dd.typeIs, wpAny_getItem_heap (tupleKind_room_in1 hu) his dd hp ?_⟩
            rw [hp2]
            exact ⟨v', H2, I2.tok _, rw2, q m2 H2 v' (A1.trans A2) S2 rv⟩
    | _ => simp only [ed] at e0; cases e0
end
end Mir

set_option Elab.async false
set_option linter.all false
set_option maxRecDepth 100000
namespace Mir
open PySem PySem.Spec PyProof.Rows L2
noncomputable def eIxT (ss : List Str) (fe : FE) : FE := fun ρ s => bd (fe ρ s) fun y s1 => match y with
  | .str z => if z ∈ ss then some (.int (ss.idxOf z : Nat), s1) else none
  | _ => none
def CsT (K : PySem.W.Frag) (mg : Str → Option Value) (x : Str) : Prop := ∃ (a : Addr) (o : Obj), mg x = some (.ref a) ∧ K.lookup a = some o ∧ o.cls = .type "tuple" ∧ o.dict = none
section
variable {X : Cx} {K : PySem.W.Frag}
theorem rl_strsX {m : List Addr} {H : Hp} : ∀ {ss : List Str} {vs : List V}, RL K m H (ss.map W.str) vs → vs = ss.map V.str
  | [], _, h => by cases h; rfl
  | x :: r, _, h => by
    cases h with
    | cons h1 h2 => cases h1; rw [rl_strsX h2]; rfl
theorem m_ixT {x : Str} {ss : List Str} {p apos cpos : Pos} {e : Expr} {fe : FE} (c : Cst X.K X.mg x (.tup (ss.map W.str))) (d : CsT X.K X.mg x) (hg : Gl X x) (he : PE X e (tF X.K fe)) (hd : (x == ("__debug__" : Str)) = false := by decide)
    (hbase : attributeBase (.Name x p) "index" X.env (eval (.Name x p) X.env) = eval (.Name x p) X.env := by rfl)
    (hfew : ((backTo cpos (starEach [e] X.env)).all (fun x => !x.1) && (backToKw cpos (keywordEach [] X.env)).all (fun x => x.1.isSome)
      && decide (([e] : List Expr).length + ([] : List Keyword).length + (if ([] : List Keyword).isEmpty then 0 else 1) < 30)) = true := by rfl)
    (hline : (apos.endLine == cpos.line) = true := by rfl) (hs : starEach [e] X.env = (false, eval e X.env) :: starEach [] X.env := by rfl) (hplain : (backTo cpos (starEach [] X.env)).any (·.1) = false := by rfl) :
    PE X (.Call (.Attribute (.Name x p) "index" apos) [e] [] cpos) (tF X.K (eIxT ss fe)) := by
  obtain ⟨v, u, h1, h2, h3⟩ := c
  obtain ⟨a, o, d1, d2, d3, d4⟩ := d
  rw [h1] at d1
  cases d1
  have hv : v = V.ref a := by
    have := h3 [] (fun _ => none)
    cases this with
    | tup _ _ => cases h2; rfl
  subst hv
  refine (pe_bm PySem.F.plainAttrs_tuple PySem.F.slot_tuple_index PySem.F.type_tuple_index (mt_tup_index) (pe_glob hg h1 h2 hd) (pa_cons he pa_nil hs) hbase hfew hline hs hplain).imp fun σ H Q ⟨m, ρ, s, er, sr, w, s', e0, q⟩ => ?_
  obtain ⟨y, s1, e1, e0⟩ := bd_inv e0
  refine ⟨.inr (.inl ⟨rfl, o, d2, d3, d4⟩), m, ρ, s, er, sr, y, s1, e1, fun m1 H1 v1 A1 S1 r1 => ?_⟩
  cases y with
  | str z =>
    cases r1
    dsimp only at e0
    by_cases hz : z ∈ ss
    · rw [if_pos hz] at e0
      cases e0
      have hi := List.idxOf_lt_length_of_mem hz
      have rt := h3 m1 H1
      cases rt with
      | tup t1 t2 =>
        have hvs := rl_strsX t2
        subst hvs
        refine ⟨a, ss, z, ss.idxOf z, rfl, rfl, t1.sq, ?_, fun j hj ej => ?_, q m1 H1 _ A1 S1 (.int _)⟩
        · rw [List.getElem?_eq_getElem hi, List.getElem_idxOf hi]
        · have hl : j < ss.length := (List.getElem?_eq_some_iff.mp ej).1
          have h5 := List.not_of_lt_findIdx (p := fun y => y == z) (xs := ss) (i := j) hj
          obtain ⟨_, e5⟩ := List.getElem?_eq_some_iff.mp ej
          rw [e5] at h5
          simp at h5
    · rw [if_neg hz] at e0
      cases e0
  | _ => cases e0
end
end Mir

set_option Elab.async false
set_option linter.all false
set_option maxRecDepth 100000
namespace K44
open PySem PySem.Spec PyProof.Rows L2 Mir
def topS (i : Nat) : Stmt := PySem.Challenge.pw_shapewright_k44_tidy_levels.main.body.getD i (.Pass ⟨0, 0, 0, 0⟩)
abbrev sSpaceOf : Stmt := topS 2
theorem scSpaceOf : FnScope ["entry"] ["entry"] (defScope sSpaceOf) := ⟨rfl, rfl, rfl, by decide +kernel, rfl, by decide +kernel, by decide +kernel⟩
abbrev sTidy : Stmt := topS 5
theorem scTidy : FnScope ["entries", "last", "entry"] ["entries"] (defScope sTidy) := ⟨rfl, rfl, rfl, by decide +kernel, rfl, by decide +kernel, by decide +kernel⟩
abbrev sLevelPlace : Stmt := topS 6
theorem scLevelPlace : FnScope ["entry", "stamp", "index"] ["entry"] (defScope sLevelPlace) := ⟨rfl, rfl, rfl, by decide +kernel, rfl, by decide +kernel, by decide +kernel⟩
abbrev sLawMix : Stmt := topS 8
theorem scLawMix : FnScope ["first", "second", "value"] ["first", "second"] (defScope sLawMix) := ⟨rfl, rfl, rfl, by decide +kernel, rfl, by decide +kernel, by decide +kernel⟩
abbrev sLawNumbers : Stmt := topS 9
theorem scLawNumbers : FnScope ["script", "count", "found", "total", "cell", "number", "k"] ["script", "count"] (defScope sLawNumbers) := ⟨rfl, rfl, rfl, by decide +kernel, rfl, by decide +kernel, by decide +kernel⟩
abbrev sLawDraws : Stmt := topS 10
theorem scLawDraws : FnScope ["script", "count"] ["script", "count"] (defScope sLawDraws) := ⟨rfl, rfl, rfl, by decide +kernel, rfl, by decide +kernel, by decide +kernel⟩
abbrev sLawTake : Stmt := topS 11
theorem scLawTake : FnScope ["draws", "bound", "row", "at", "value"] ["draws", "bound"] (defScope sLawTake) := ⟨rfl, rfl, rfl, by decide +kernel, rfl, by decide +kernel, by decide +kernel⟩
abbrev sLawName : Stmt := topS 12
theorem scLawName : FnScope ["draws", "capital", "letters", "signs", "first", "size", "rest", "words", "k"] ["draws", "capital"] (defScope sLawName) := ⟨rfl, rfl, rfl, by decide +kernel, rfl, by decide +kernel, by decide +kernel⟩
abbrev sLawPool : Stmt := topS 13
theorem scLawPool : FnScope ["draws", "capital", "many", "pool", "k", "name", "base", "n"] ["draws", "capital", "many"] (defScope sLawPool) := ⟨rfl, rfl, rfl, by decide +kernel, rfl, by decide +kernel, by decide +kernel⟩
abbrev sLawEntry : Stmt := topS 14
theorem scLawEntry : FnScope ["draws", "small", "large", "k", "kind", "low", "high", "stamp", "shape"] ["draws", "small", "large", "k"] (defScope sLawEntry) := ⟨rfl, rfl, rfl, by decide +kernel, rfl, by decide +kernel, by decide +kernel⟩
abbrev sLawSpace : Stmt := topS 15
theorem scLawSpace : FnScope ["entry"] ["entry"] (defScope sLawSpace) := ⟨rfl, rfl, rfl, by decide +kernel, rfl, by decide +kernel, by decide +kernel⟩
abbrev sLawNamed : Stmt := topS 16
theorem scLawNamed : FnScope ["last", "tag", "names", "space", "key", "name"] ["last", "tag"] (defScope sLawNamed) := ⟨rfl, rfl, rfl, by decide +kernel, rfl, by decide +kernel, by decide +kernel⟩
abbrev sLawDue : Stmt := topS 17
theorem scLawDue : FnScope ["entries", "last", "entry", "due", "constructors", "place", "key"] ["entries"] (defScope sLawDue) := ⟨rfl, rfl, rfl, by decide +kernel, rfl, by decide +kernel, by decide +kernel⟩
abbrev sLaw : Stmt := topS 18
theorem scLaw : FnScope ["script", "draws", "small", "large", "entries", "level", "k"] ["script"] (defScope sLaw) := ⟨rfl, rfl, rfl, by decide +kernel, rfl, by decide +kernel, by decide +kernel⟩
def T_SPACES : List (Str × Option W) := [("exn", some (.str "con")), ("val", none), ("shape", none), ("con", none), ("name", none), ("module", none), ("functor", none), ("signature", none)]
noncomputable def BSpaceOf : FS := (sRet (eCget2 T_SPACES (eOp gIx (eVar 0) (eC (.int 0))) (eOp gIx (eVar 0) (eC (.int 0)))))
noncomputable def FSpaceOf : List W → Sto → Rz W := mkF 1 1 BSpaceOf
noncomputable def BLevelPlace : FS := (sCons (sAsg (.tup [(.name 1), (.name 2)]) (eTup (aCons (eUn gNeg (eC (.int 1))) (aCons (eUn gNeg (eC (.int 1))) aNil))))
    (sCons (sIf (bTest (eOp gEq (eOp gIx (eVar 0) (eC (.int 0))) (eC (.str "con")))) (sPar 1 2 (aCons (eOp gIx (eOp gIx (eVar 0) (eC (.int 4))) (eC (.int 1))) (aCons (eOp gIx (eVar 0) (eC (.int 5))) aNil))) sNil)
    (sRet (eTup (aCons (eIxT ["val", "shape", "con", "module", "functor"] (eFn FSpaceOf (aCons (eVar 0) aNil))) (aCons (eOp gEq (eOp gIx (eVar 0) (eC (.int 0))) (eC (.str "exn"))) (aCons (eVar 1) (aCons (eVar 2) (aCons (eOp gIx (eVar 0) (eC (.int 1))) aNil)))))))))
noncomputable def FLevelPlace : List W → Sto → Rz W := mkF 1 3 BLevelPlace
noncomputable def BTidy : FS := (sCons (sSet 1 eTnew)
    (sCons (sFor (iSeq (eVar 0)) (.name 2) (sIf (bTest (eOp gIn (eFn FSpaceOf (aCons (eVar 2) aNil)) (eC (.tup [(.str "val"), (.str "shape"), (.str "con"), (.str "module"), (.str "functor")])))) (sTput (eVar 1) (aCons (eFn FSpaceOf (aCons (eVar 2) aNil)) (aCons (eOp gIx (eVar 2) (eC (.int 1))) aNil)) (eVar 2)) sNil))
    (sRet (eFn gTuple (aCons (eSortK (eDvT (eVar 1)) FLevelPlace) aNil)))))
noncomputable def FTidy : List W → Sto → Rz W := mkF 1 3 BTidy
noncomputable def BLawMix : FS := (sCons (sSet 2 (eOp gMod (eFn gInt1 (aCons (eOp gAdd (eOp gAdd (eOp gMul (eVar 0) (eC (.int 48271))) (eOp gMul (eVar 1) (eC (.int 69621)))) (eC (.int 12345))) aNil)) (eC (.int 2147483647))))
    (sRet (eOp gMod (eFn gInt1 (aCons (eOp gAdd (eOp gAdd (eOp gMul (eVar 2) (eC (.int 40692))) (eOp gMul (eVar 1) (eC (.int 7919)))) (eC (.int 1))) aNil)) (eC (.int 2147483399)))))
noncomputable def FLawMix : List W → Sto → Rz W := mkF 2 3 BLawMix
noncomputable def BLawNumbers : FS := (sCons (sSet 2 (eLst aNil))
    (sCons (sSet 3 (eOp gAdd (eFn gLen (aCons (eVar 0) aNil)) (eC (.int 1))))
    (sCons (sFor (iSeq (eSl gSlA (eVar 0) pNo (pAt (eC (.int 63))))) (.name 4) (sCons (sSet 5 (eFn gAbs (aCons (eVar 4) aNil)))
    (sCons (sSet 3 (eFn FLawMix (aCons (eVar 3) (aCons (eOp gMod (eFn gInt1 (aCons (eVar 5) aNil)) (eC (.int 2147483647))) aNil))))
    (sIf (bTest (eOp gGe (eVar 5) (eOp gPow (eC (.int 10)) (eC (.int 18))))) (sFor (iRng1 (eC (.int 60))) (.name 6) (sIf (bTest (eOp gGt (eVar 5) (eC (.int 0)))) (sCons (sDo (eMt isL gAppend (eVar 2) (aCons (eOp gMod (eFn gInt1 (aCons (eVar 5) aNil)) (eC (.int 1000))) aNil)))
    (sSet 5 (eOp gDiv (eVar 5) (eC (.int 1000))))) sNil)) (sFor (iRng1 (eC (.int 6))) (.name 6) (sDo (eMt isL gAppend (eVar 2) (aCons (eOp gMod (eFn gInt1 (aCons (eFn FLawMix (aCons (eVar 5) (aCons (eOp gAdd (eVar 6) (eC (.int 1))) aNil))) aNil)) (eC (.int 1000))) aNil))))))))
    (sCons (sFor (iRng1 (eVar 1)) (.name 6) (sIf (bTest (eOp gLt (eFn gLen (aCons (eVar 2) aNil)) (eVar 1))) (sCons (sSet 3 (eFn FLawMix (aCons (eVar 3) (aCons (eOp gAdd (eVar 6) (eC (.int 3))) aNil))))
    (sDo (eMt isL gAppend (eVar 2) (aCons (eOp gMod (eFn gInt1 (aCons (eVar 3) aNil)) (eC (.int 1000))) aNil)))) sNil))
    (sRet (eSl gSlA (eVar 2) pNo (pAt (eVar 1))))))))
noncomputable def FLawNumbers : List W → Sto → Rz W := mkF 2 7 BLawNumbers
noncomputable def BLawDraws : FS := (sRet (eD2 "at" "row" (eC (.int 0)) (eFn FLawNumbers (aCons (eVar 0) (aCons (eVar 1) aNil)))))
noncomputable def FLawDraws : List W → Sto → Rz W := mkF 2 2 BLawDraws
noncomputable def BLawTake : FS := (sCons (sSet 2 (eDget (eVar 0) (eC (.str "row"))))
    (sCons (sSet 3 (eDget (eVar 0) (eC (.str "at"))))
    (sCons (sDput (eVar 0) (eC (.str "at")) (eOp gAdd (eVar 3) (eC (.int 1))))
    (sCons (sSet 4 (eOp gAdd (eOp gIx (eVar 2) (eOp gMod (eFn gInt1 (aCons (eVar 3) aNil)) (eFn gLen (aCons (eVar 2) aNil)))) (eOp gDivW (eVar 3) (eFn gLen (aCons (eVar 2) aNil)))))
    (sRet (eOp gMod (eFn gInt1 (aCons (eVar 4) aNil)) (eVar 1)))))))
noncomputable def FLawTake : List W → Sto → Rz W := mkF 2 5 BLawTake
noncomputable def BLawName : FS := (sCons (sSet 2 (eC (.str "abcdefghijklmnopqrstuvwxyz")))
    (sCons (sSet 3 (eOp gAdd (eVar 2) (eC (.str "ABCDEFGHIJKLMNOPQRSTUVWXYZ0123456789_"))))
    (sCons (sSet 4 (eOp gIx (eVar 2) (eFn FLawTake (aCons (eVar 0) (aCons (eC (.int 26)) aNil)))))
    (sCons (sIf (bTruth (eVar 1)) (sSet 4 (eMt isS gUpper (eVar 4) aNil)) sNil)
    (sCons (sSet 5 (eFn FLawTake (aCons (eVar 0) (aCons (eC (.int 4)) aNil))))
    (sCons (sIf (bTest (eOp gEq (eFn FLawTake (aCons (eVar 0) (aCons (eC (.int 9)) aNil))) (eC (.int 0)))) (sSet 5 (eC (.int 15))) sNil)
    (sCons (sSet 6 (eMt isS gJoin (eC (.str "")) (aCons (eLc [8] (iRng1 (eVar 5)) (.name 8) bYes (eOp gIx (eVar 3) (eFn FLawTake (aCons (eVar 0) (aCons (eC (.int 63)) aNil))))) aNil)))
    (sCons (sSet 7 (eMt isS gSplit (eC (.str "as fn if in of all and div end let mod rec sig val case else open then")) (aCons (eC (.str " ")) aNil)))
    (sCons (sIf (bTest (eOp gIn (eOp gAdd (eVar 4) (eVar 6)) (eVar 7))) (sRet (eOp gAdd (eVar 4) (eC (.str "_0")))) sNil)
    (sRet (eOp gAdd (eVar 4) (eVar 6))))))))))))
noncomputable def FLawName : List W → Sto → Rz W := mkF 2 9 BLawName
noncomputable def BLawPool : FS := (sCons (sSet 3 (eLst aNil))
    (sCons (sFor (iRng1 (eVar 2)) (.name 4) (sCons (sSet 5 (eFn FLawName (aCons (eVar 0) (aCons (eVar 1) aNil))))
    (sCons (sSet 6 (eSl gSlA (eVar 5) pNo (pAt (eC (.int 12)))))
    (sCons (sFor (iRng1 (eOp gAdd (eVar 2) (eC (.int 1)))) (.name 7) (sIf (bTest (eOp gIn (eVar 5) (eVar 3))) (sSet 5 (eOp gAdd (eOp gAdd (eVar 6) (eC (.str "_"))) (eFn gStr1 (aCons (eVar 7) aNil)))) sNil))
    (sDo (eMt isL gAppend (eVar 3) (aCons (eVar 5) aNil)))))))
    (sRet (eVar 3))))
noncomputable def FLawPool : List W → Sto → Rz W := mkF 3 8 BLawPool
noncomputable def BLawEntry : FS := (sCons (sSet 4 (eFn FLawTake (aCons (eVar 0) (aCons (eC (.int 8)) aNil))))
    (sCons (sSet 5 (eOp gIx (eVar 1) (eFn FLawTake (aCons (eVar 0) (aCons (eC (.int 4)) aNil)))))
    (sCons (sSet 6 (eOp gIx (eVar 2) (eFn FLawTake (aCons (eVar 0) (aCons (eC (.int 4)) aNil)))))
    (sCons (sSet 7 (eFn FLawTake (aCons (eVar 0) (aCons (eC (.int 12)) aNil))))
    (sCons (sSet 8 (eTup (aCons (eC (.str "c")) (aCons (eVar 7) (aCons (eTup aNil) aNil)))))
    (sCons (sIf (bTest (eOp gEq (eVar 4) (eC (.int 0)))) (sRet (eTup (aCons (eC (.str "val")) (aCons (eVar 5) (aCons (eTup (aCons (eC (.int 0)) (aCons (eVar 8) aNil))) aNil))))) sNil)
    (sCons (sIf (bTest (eOp gEq (eVar 4) (eC (.int 1)))) (sRet (eTup (aCons (eC (.str "shape")) (aCons (eVar 5) (aCons (eC (.int 0)) (aCons (eVar 8) aNil)))))) sNil)
    (sCons (sIf (bTest (eOp gEq (eVar 4) (eC (.int 2)))) (sRet (eTup (aCons (eC (.str "con")) (aCons (eVar 6) (aCons (eC (.int 0)) (aCons (eC .non) (aCons (eVar 8) (aCons (eVar 3) (aCons (eTup (aCons (eTup (aCons (eVar 6) (aCons (eC (.bl false)) aNil))) aNil)) aNil))))))))) sNil)
    (sCons (sIf (bTest (eOp gEq (eVar 4) (eC (.int 3)))) (sRet (eTup (aCons (eC (.str "exn")) (aCons (eVar 6) (aCons (eC .non) aNil))))) sNil)
    (sCons (sIf (bTest (eOp gEq (eVar 4) (eC (.int 4)))) (sRet (eTup (aCons (eC (.str "name")) (aCons (eVar 5) (aCons (eVar 8) aNil))))) sNil)
    (sCons (sIf (bTest (eOp gEq (eVar 4) (eC (.int 5)))) (sRet (eTup (aCons (eC (.str "module")) (aCons (eVar 6) (aCons (eTup (aCons (eTup (aCons (eC (.str "val")) (aCons (eVar 5) (aCons (eTup (aCons (eC (.int 0)) (aCons (eVar 8) aNil))) aNil)))) aNil)) aNil))))) sNil)
    (sCons (sIf (bTest (eOp gEq (eVar 4) (eC (.int 6)))) (sRet (eTup (aCons (eC (.str "functor")) (aCons (eVar 6) (aCons (eTup (aCons (eTup aNil) (aCons (eTup aNil) aNil))) (aCons (eTup aNil) (aCons (eTup aNil) aNil))))))) sNil)
    (sRet (eTup (aCons (eC (.str "signature")) (aCons (eVar 6) (aCons (eTup (aCons (eTup aNil) (aCons (eTup aNil) aNil))) aNil)))))))))))))))))
noncomputable def FLawEntry : List W → Sto → Rz W := mkF 4 9 BLawEntry
noncomputable def BLawSpace : FS := (sCons (sIf (bTest (eOp gEq (eOp gIx (eVar 0) (eC (.int 0))) (eC (.str "exn")))) (sRet (eC (.str "con"))) sNil)
    (sRet (eOp gIx (eVar 0) (eC (.int 0)))))
noncomputable def FLawSpace : List W → Sto → Rz W := mkF 1 1 BLawSpace
noncomputable def BLawNamed : FS := (sCons (sSet 2 (eFn gSortedS (aCons (lkET 0 (eLc [4] (fiKeysT 0) (.name 4) (bTest (eOp gEq (eOp gIx (eTgetW (eVar 0) (eVar 4)) (eC (.int 0))) (eVar 1))) (eOp gIx (eVar 4) (eC (.int 1))))) aNil)))
    (sCons (sSet 3 (eVar 1))
    (sCons (sIf (bTest (eOp gEq (eVar 1) (eC (.str "exn")))) (sSet 3 (eC (.str "con"))) sNil)
    (sRet (eLc [5] (iSeq (eVar 2)) (.name 5) bYes (eTget (eVar 0) (aCons (eVar 3) (aCons (eVar 5) aNil))))))))
noncomputable def FLawNamed : List W → Sto → Rz W := mkF 2 6 BLawNamed
noncomputable def BLawDue : FS := (sCons (sSet 1 eTnew)
    (sCons (sFor (iSeq (eVar 0)) (.name 2) (sTput (eVar 1) (aCons (eFn FLawSpace (aCons (eVar 2) aNil)) (aCons (eOp gIx (eVar 2) (eC (.int 1))) aNil)) (eVar 2)))
    (sCons (sSet 3 (eOp gAdd (eFn FLawNamed (aCons (eVar 1) (aCons (eC (.str "val")) aNil))) (eFn FLawNamed (aCons (eVar 1) (aCons (eC (.str "shape")) aNil)))))
    (sCons (lkST 1 (sSet 4 (eLc [6] (fiKeysT 1) (.name 6) (bTest (eOp gEq (eOp gIx (eTgetW (eVar 1) (eVar 6)) (eC (.int 0))) (eC (.str "con")))) (eTgetW (eVar 1) (eVar 6)))))
    (sCons (sFor (iSeq (eFn gSortT (aCons (eLc [2] (iSeq (eVar 4)) (.name 2) bYes (eTup (aCons (eOp gIx (eOp gIx (eVar 2) (eC (.int 4))) (eC (.int 1))) (aCons (eOp gIx (eVar 2) (eC (.int 5))) aNil)))) aNil))) (.name 5) (sFor (iSeq (eVar 4)) (.name 2) (sIf (bTest (eOp gEq (eTup (aCons (eOp gIx (eOp gIx (eVar 2) (eC (.int 4))) (eC (.int 1))) (aCons (eOp gIx (eVar 2) (eC (.int 5))) aNil))) (eVar 5))) (sDo (eMt isL gAppend (eVar 3) (aCons (eVar 2) aNil))) sNil)))
    (sRet (eOp gAdd (eOp gAdd (eOp gAdd (eVar 3) (eFn FLawNamed (aCons (eVar 1) (aCons (eC (.str "exn")) aNil)))) (eFn FLawNamed (aCons (eVar 1) (aCons (eC (.str "module")) aNil)))) (eFn FLawNamed (aCons (eVar 1) (aCons (eC (.str "functor")) aNil))))))))))
noncomputable def FLawDue : List W → Sto → Rz W := mkF 1 7 BLawDue
noncomputable def BLaw : FS := (sCons (sSet 1 (eFn FLawDraws (aCons (eVar 0) (aCons (eC (.int 120)) aNil))))
    (sCons (sSet 2 (eFn FLawPool (aCons (eVar 1) (aCons (eC (.bl false)) (aCons (eC (.int 4)) aNil)))))
    (sCons (sSet 3 (eFn FLawPool (aCons (eVar 1) (aCons (eC (.bl true)) (aCons (eC (.int 4)) aNil)))))
    (sCons (sSet 4 (eFn gTuple (aCons (eLc [6] (iRng1 (eFn FLawTake (aCons (eVar 1) (aCons (eC (.int 17)) aNil)))) (.name 6) bYes (eFn FLawEntry (aCons (eVar 1) (aCons (eVar 2) (aCons (eVar 3) (aCons (eVar 6) aNil)))))) aNil)))
    (sCons (sSet 5 (eFn FTidy (aCons (eVar 4) aNil)))
    (sCons (sIf (bNot (bTruth (eIsi "tuple" (eVar 5)))) (sRet (eC (.bl false))) sNil)
    (sCons (sIf (bTest (eOp gNe (eVar 5) (eFn gTuple (aCons (eFn FLawDue (aCons (eVar 4) aNil)) aNil)))) (sRet (eC (.bl false))) sNil)
    (sRet (eOp gEq (eFn FTidy (aCons (eVar 5) aNil)) (eVar 5))))))))))
noncomputable def FLaw : List W → Sto → Rz W := mkF 1 7 BLaw
end K44

set_option Elab.async false
set_option linter.all false
set_option maxRecDepth 100000
namespace K44
open PySem PySem.Spec PyProof.Rows L2 Mir
theorem okSpaceOf {P : Program} {w : World} {K : PySem.W.Frag} {mg : Str → Option Value} {base : Heap} {f : Addr} {fd : FuncData} {k : Nat} (F : Fun K "space_of" "space_of" sSpaceOf f fd) (hb : Binds K fd ["entry"] []) (hm : mg "space_of" = some (.ref f)) (c_SPACES : CDct K w mg "SPACES" T_SPACES) : Own P w K mg base (k + 1) "space_of" ["entry"] FSpaceOf :=
  own_of F scSpaceOf hb hm fun cdv A outer s H E hr =>
    (mss_one (ms_ret (m_cget2 c_SPACES rfl (m_ix ix_seq f_ix (m_var 0) m_int (fun _ _ => rfl)) (m_ix ix_seq f_ix (m_var 0) m_int (fun _ _ => rfl)) ⟨rfl, rfl, rfl, rfl⟩)))
theorem okLevelPlace {P : Program} {w : World} {K : PySem.W.Frag} {mg : Str → Option Value} {base : Heap} {f : Addr} {fd : FuncData} {k : Nat} (F : Fun K "level_place" "level_place" sLevelPlace f fd) (hb : Binds K fd ["entry"] []) (hm : mg "level_place" = some (.ref f)) (OSpaceOf : Own P w K mg base k "space_of" ["entry"] FSpaceOf) (cst_SPACE_ORDER : CsT K mg "SPACE_ORDER") (c_SPACE_ORDER : Cst K mg "SPACE_ORDER" (.tup [(.str "val"), (.str "shape"), (.str "con"), (.str "module"), (.str "functor")])) : Own P w K mg base (k + 1) "level_place" ["entry"] FLevelPlace :=
  own_of F scLevelPlace hb hm fun cdv A outer s H E hr =>
    (mss_cons (ms_asg (t := (.tup [(.name 1), (.name 2)])) (m_tup (ma_cons (m_un un_neg f_neg m_int) (ma_cons (m_un un_neg f_neg m_int) ma_nil))) (pg_tup rfl (pgs_cons (pg_name (i := 1) scLevelPlace.nd rfl (.inl rfl)) (pgs_cons (pg_name (i := 2) scLevelPlace.nd rfl (.inl rfl)) pgs_nil))))
    (mss_cons (ms_if (mt_cmp (op_eqA hr.units) f_eq (m_ix ix_seq f_ix (m_var 0) m_int (fun _ _ => rfl)) m_str (nomark _)) (mss_one (ms_par (i := 1) (j := 2) rfl scLevelPlace.nd rfl rfl (by decide) rfl rfl (ma_cons (m_ix ix_seq f_ix (m_ix ix_seq f_ix (m_var 0) m_int (fun _ _ => rfl)) m_int (fun _ _ => rfl)) (ma_cons (m_ix ix_seq f_ix (m_var 0) m_int (fun _ _ => rfl)) ma_nil)) (by rfl))) mss_nil)
    (mss_one (ms_ret (m_tup (ma_cons (m_ixT (ss := ["val", "shape", "con", "module", "functor"]) c_SPACE_ORDER cst_SPACE_ORDER rfl (m_call OSpaceOf hr rfl (ma_cons (m_var 0) ma_nil))) (ma_cons (m_cmp (op_eqA hr.units) f_eq (m_ix ix_seq f_ix (m_var 0) m_int (fun _ _ => rfl)) m_str (nomark _)) (ma_cons (m_var 1) (ma_cons (m_var 2) (ma_cons (m_ix ix_seq f_ix (m_var 0) m_int (fun _ _ => rfl)) ma_nil))))))))))
theorem okTidy {P : Program} {w : World} {K : PySem.W.Frag} {mg : Str → Option Value} {base : Heap} {f : Addr} {fd : FuncData} {k : Nat} (F : Fun K "tidy" "tidy" sTidy f fd) (hb : Binds K fd ["entries"] []) (hm : mg "tidy" = some (.ref f)) (OLevelPlace : Own P w K mg base k "level_place" ["entry"] FLevelPlace) (OSpaceOf : Own P w K mg base (k + 2) "space_of" ["entry"] FSpaceOf) (nb_list : mg "list" = none) (nb_sorted : mg "sorted" = none) (nb_tuple : mg "tuple" = none) (c_SPACE_ORDER : Cst K mg "SPACE_ORDER" (.tup [(.str "val"), (.str "shape"), (.str "con"), (.str "module"), (.str "functor")])) : Own P w K mg base (k + 3) "tidy" ["entries"] FTidy :=
  own_of F scTidy hb hm fun cdv A outer s H E hr =>
    (mss_cons (ms_set (i := 1) scTidy.nd rfl (.inl rfl) m_tnew)
    (mss_cons (ms_for (t := (.name 2)) PassesOwn.never rfl (mi_seq (m_var 0)) (pg_name (i := 2) scTidy.nd rfl (.inl rfl)) (mss_one (ms_if (mt_cmp (op_inA (hu65 hr)) f_in (m_call OSpaceOf hr rfl (ma_cons (m_var 2) ma_nil)) (m_glob c_SPACE_ORDER rfl) (by with_unfolding_all rfl)) (mss_one (ms_tput (hu_of hr) (m_var 1) (ma_cons (m_call OSpaceOf hr rfl (ma_cons (m_var 2) ma_nil)) (ma_cons (m_ix ix_seq f_ix (m_var 2) m_int (fun _ _ => rfl)) ma_nil)) (m_var 2))) mss_nil)))
    (mss_one (ms_ret (m_callTy call_tuple_of f_tuple rfl nb_tuple (by decide +kernel) (ma_cons (m_sortK OLevelPlace hr rfl nb_sorted rfl (m_dvt rfl rfl nb_list (m_var 1))) ma_nil))))))
theorem okLawMix {P : Program} {w : World} {K : PySem.W.Frag} {mg : Str → Option Value} {base : Heap} {f : Addr} {fd : FuncData} {k : Nat} (F : Fun K "_law_mix" "_law_mix" sLawMix f fd) (hb : Binds K fd ["first", "second"] []) (hm : mg "_law_mix" = some (.ref f)) (nb_int : mg "int" = none) : Own P w K mg base (k + 1) "_law_mix" ["first", "second"] FLawMix :=
  own_of F scLawMix hb hm fun cdv A outer s H E hr =>
    (mss_cons (ms_set (i := 2) scLawMix.nd rfl (.inl rfl) (m_op op_mod f_mod (m_callTy call_int1 f_int1 rfl nb_int (by decide +kernel) (ma_cons (m_op op_addA f_add (m_op op_addA f_add (m_op op_mulA f_mul (m_var 0) m_int) (m_op op_mulA f_mul (m_var 1) m_int)) m_int) ma_nil)) m_int))
    (mss_one (ms_ret (m_op op_mod f_mod (m_callTy call_int1 f_int1 rfl nb_int (by decide +kernel) (ma_cons (m_op op_addA f_add (m_op op_addA f_add (m_op op_mulA f_mul (m_var 2) m_int) (m_op op_mulA f_mul (m_var 1) m_int)) m_int) ma_nil)) m_int))))
theorem okLawNumbers {P : Program} {w : World} {K : PySem.W.Frag} {mg : Str → Option Value} {base : Heap} {f : Addr} {fd : FuncData} {k : Nat} (F : Fun K "_law_numbers" "_law_numbers" sLawNumbers f fd) (hb : Binds K fd ["script", "count"] []) (hm : mg "_law_numbers" = some (.ref f)) (OLawMix : Own P w K mg base k "_law_mix" ["first", "second"] FLawMix) (nb_abs : mg "abs" = none) (nb_int : mg "int" = none) (nb_len : mg "len" = none) (nb_range : mg "range" = none) : Own P w K mg base (k + 1) "_law_numbers" ["script", "count"] FLawNumbers :=
  own_of F scLawNumbers hb hm fun cdv A outer s H E hr =>
    (mss_cons (ms_set (i := 2) scLawNumbers.nd rfl (.inl rfl) (m_lst ma_nil))
    (mss_cons (ms_set (i := 3) scLawNumbers.nd rfl (.inl rfl) (m_op op_addA f_add (m_callB call_lenA f_len rfl nb_len (by decide +kernel) (ma_cons (m_var 0) ma_nil)) m_int))
    (mss_cons (ms_for (t := (.name 4)) PassesOwn.never rfl (mi_seq (m_slice sl_any f_sl (m_var 0) mp_none (mp_some m_int))) (pg_name (i := 4) scLawNumbers.nd rfl (.inl rfl)) (mss_cons (ms_set (i := 5) scLawNumbers.nd rfl (.inl rfl) (m_callB call_abs f_abs rfl nb_abs (by decide +kernel) (ma_cons (m_var 4) ma_nil)))
    (mss_cons (ms_set (i := 3) scLawNumbers.nd rfl (.inl rfl) (m_call OLawMix hr rfl (ma_cons (m_var 3) (ma_cons (m_op op_mod f_mod (m_callTy call_int1 f_int1 rfl nb_int (by decide +kernel) (ma_cons (m_var 5) ma_nil)) m_int) ma_nil))))
    (mss_one (ms_if (mt_cmp op_ge f_ge (m_var 5) (m_op op_pow f_pow m_int m_int) (nomark _)) (mss_one (ms_for (t := (.name 6)) PassesOwn.never rfl (mi_rng1 rfl nb_range m_int) (pg_name (i := 6) scLawNumbers.nd rfl (.inl rfl)) (mss_one (ms_if (mt_cmp op_gt f_gt (m_var 5) m_int (nomark _)) (mss_cons (ms_expr (m_append (m_var 2) (ma_cons (m_op op_mod f_mod (m_callTy call_int1 f_int1 rfl nb_int (by decide +kernel) (ma_cons (m_var 5) ma_nil)) m_int) ma_nil)))
    (mss_one (ms_set (i := 5) scLawNumbers.nd rfl (.inl rfl) (m_op op_fdiv f_div (m_var 5) m_int)))) mss_nil)))) (mss_one (ms_for (t := (.name 6)) PassesOwn.never rfl (mi_rng1 rfl nb_range m_int) (pg_name (i := 6) scLawNumbers.nd rfl (.inl rfl)) (mss_one (ms_expr (m_append (m_var 2) (ma_cons (m_op op_mod f_mod (m_callTy call_int1 f_int1 rfl nb_int (by decide +kernel) (ma_cons (m_call OLawMix hr rfl (ma_cons (m_var 5) (ma_cons (m_op op_addA f_add (m_var 6) m_int) ma_nil))) ma_nil)) m_int) ma_nil)))))))))))
    (mss_cons (ms_for (t := (.name 6)) PassesOwn.never rfl (mi_rng1 rfl nb_range (m_var 1)) (pg_name (i := 6) scLawNumbers.nd rfl (.inl rfl)) (mss_one (ms_if (mt_cmp op_lt f_lt (m_callB call_lenA f_len rfl nb_len (by decide +kernel) (ma_cons (m_var 2) ma_nil)) (m_var 1) (nomark _)) (mss_cons (ms_set (i := 3) scLawNumbers.nd rfl (.inl rfl) (m_call OLawMix hr rfl (ma_cons (m_var 3) (ma_cons (m_op op_addA f_add (m_var 6) m_int) ma_nil))))
    (mss_one (ms_expr (m_append (m_var 2) (ma_cons (m_op op_mod f_mod (m_callTy call_int1 f_int1 rfl nb_int (by decide +kernel) (ma_cons (m_var 3) ma_nil)) m_int) ma_nil))))) mss_nil)))
    (mss_one (ms_ret (m_slice sl_any f_sl (m_var 2) mp_none (mp_some (m_var 1)))))))))
theorem okLawDraws {P : Program} {w : World} {K : PySem.W.Frag} {mg : Str → Option Value} {base : Heap} {f : Addr} {fd : FuncData} {k : Nat} (F : Fun K "_law_draws" "_law_draws" sLawDraws f fd) (hb : Binds K fd ["script", "count"] []) (hm : mg "_law_draws" = some (.ref f)) (OLawNumbers : Own P w K mg base k "_law_numbers" ["script", "count"] FLawNumbers) : Own P w K mg base (k + 1) "_law_draws" ["script", "count"] FLawDraws :=
  own_of F scLawDraws hb hm fun cdv A outer s H E hr =>
    (mss_one (ms_ret (m_d2 (k1 := "at") (k2 := "row") (by decide +kernel) m_int (m_call OLawNumbers hr rfl (ma_cons (m_var 0) (ma_cons (m_var 1) ma_nil))))))
theorem okLawTake {P : Program} {w : World} {K : PySem.W.Frag} {mg : Str → Option Value} {base : Heap} {f : Addr} {fd : FuncData} {k : Nat} (F : Fun K "_law_take" "_law_take" sLawTake f fd) (hb : Binds K fd ["draws", "bound"] []) (hm : mg "_law_take" = some (.ref f)) (nb_int : mg "int" = none) (nb_len : mg "len" = none) : Own P w K mg base (k + 1) "_law_take" ["draws", "bound"] FLawTake :=
  own_of F scLawTake hb hm fun cdv A outer s H E hr =>
    (mss_cons (ms_set (i := 2) scLawTake.nd rfl (.inl rfl) (m_dget (hu_of hr) (m_var 0) m_str (fun _ _ => rfl)))
    (mss_cons (ms_set (i := 3) scLawTake.nd rfl (.inl rfl) (m_dget (hu_of hr) (m_var 0) m_str (fun _ _ => rfl)))
    (mss_cons (ms_dput (hu_of hr) (m_var 0) m_str (m_op op_addA f_add (m_var 3) m_int))
    (mss_cons (ms_set (i := 4) scLawTake.nd rfl (.inl rfl) (m_op op_addA f_add (m_ix ix_seq f_ix (m_var 2) (m_op op_mod f_mod (m_callTy call_int1 f_int1 rfl nb_int (by decide +kernel) (ma_cons (m_var 3) ma_nil)) (m_callB call_lenA f_len rfl nb_len (by decide +kernel) (ma_cons (m_var 2) ma_nil))) (fun _ _ => rfl)) (m_op op_fdivW f_divW (m_var 3) (m_callB call_lenA f_len rfl nb_len (by decide +kernel) (ma_cons (m_var 2) ma_nil)))))
    (mss_one (ms_ret (m_op op_mod f_mod (m_callTy call_int1 f_int1 rfl nb_int (by decide +kernel) (ma_cons (m_var 4) ma_nil)) (m_var 1))))))))
theorem okLawName {P : Program} {w : World} {K : PySem.W.Frag} {mg : Str → Option Value} {base : Heap} {f : Addr} {fd : FuncData} {k : Nat} (F : Fun K "_law_name" "_law_name" sLawName f fd) (hb : Binds K fd ["draws", "capital"] []) (hm : mg "_law_name" = some (.ref f)) (OLawTake : Own P w K mg base k "_law_take" ["draws", "bound"] FLawTake) (nb_range : mg "range" = none) : Own P w K mg base (k + 1) "_law_name" ["draws", "capital"] FLawName :=
  own_of F scLawName hb hm fun cdv A outer s H E hr =>
    (mss_cons (ms_set (i := 2) scLawName.nd rfl (.inl rfl) m_str)
    (mss_cons (ms_set (i := 3) scLawName.nd rfl (.inr rfl) (m_op op_addA f_add (m_var 2) m_str))
    (mss_cons (ms_set (i := 4) scLawName.nd rfl (.inl rfl) (m_ix ix_seq f_ix (m_var 2) (m_call OLawTake hr rfl (ma_cons (m_var 0) (ma_cons m_int ma_nil))) (fun _ _ => rfl)))
    (mss_cons (ms_if (mt_truth (m_var 1)) (mss_one (ms_set (i := 4) scLawName.nd rfl (.inl rfl) (m_bm0 PySem.F.plainAttrs_str PySem.F.slot_str_upper PySem.F.type_str_upper mt_upper (fun _ _ _ _ _ S r h => isS_ty S r h) f_upper (m_var 4)))) mss_nil)
    (mss_cons (ms_set (i := 5) scLawName.nd rfl (.inl rfl) (m_call OLawTake hr rfl (ma_cons (m_var 0) (ma_cons m_int ma_nil))))
    (mss_cons (ms_if (mt_cmp (op_eqA hr.units) f_eq (m_call OLawTake hr rfl (ma_cons (m_var 0) (ma_cons m_int ma_nil))) m_int (nomark _)) (mss_one (ms_set (i := 5) scLawName.nd rfl (.inl rfl) m_int)) mss_nil)
    (mss_cons (ms_set (i := 6) scLawName.nd rfl (.inl rfl) (m_bm PySem.F.plainAttrs_str PySem.F.slot_str_join PySem.F.type_str_join mt_join (fun _ _ _ _ _ S r h => isS_ty S r h) f_join m_str (ma_cons (m_lc (own := [("k", 8)]) (t := (.name 8)) (u := bYes) (f := (eOp gIx (eVar 3) (eFn FLawTake (aCons (eVar 0) (aCons (eC (.int 63)) aNil))))) (by decide) rfl scLawName.nd (mi_rng1 rfl nb_range (m_var 5)) (blkOk_by (own := [("k", 8)]) (N := ["draws", "capital", "letters", "signs", "first", "size", "rest", "words", "k"]) (sc := defScope sLawName) (by decide +kernel)) (fun _ _ _ _ _ => (pg_name (i := 8) scLawName.nd rfl (.inl rfl))) (fun _ _ _ _ _ => mts_nil) (fun _ _ _ _ _ => (m_ix ix_seq f_ix (m_var 3) (m_call OLawTake hr rfl (ma_cons (m_var 0) (ma_cons m_int ma_nil))) (fun _ _ => rfl)))) ma_nil)))
    (mss_cons (ms_set (i := 7) scLawName.nd rfl (.inl rfl) (m_bm PySem.F.plainAttrs_str PySem.F.slot_str_split PySem.F.type_str_split (mt_split.or mt_words) (fun _ _ _ _ _ S r h => isS_ty S r h) f_split m_str (ma_cons m_str ma_nil)))
    (mss_cons (ms_if (mt_cmp (op_inA (hu65 hr)) f_in (m_op op_addA f_add (m_var 4) (m_var 6)) (m_var 7) (by with_unfolding_all rfl)) (mss_one (ms_ret (m_op op_addA f_add (m_var 4) m_str))) mss_nil)
    (mss_one (ms_ret (m_op op_addA f_add (m_var 4) (m_var 6)))))))))))))
theorem okLawPool {P : Program} {w : World} {K : PySem.W.Frag} {mg : Str → Option Value} {base : Heap} {f : Addr} {fd : FuncData} {k : Nat} (F : Fun K "_law_pool" "_law_pool" sLawPool f fd) (hb : Binds K fd ["draws", "capital", "many"] []) (hm : mg "_law_pool" = some (.ref f)) (OLawName : Own P w K mg base k "_law_name" ["draws", "capital"] FLawName) (nb_range : mg "range" = none) (nb_str : mg "str" = none) : Own P w K mg base (k + 1) "_law_pool" ["draws", "capital", "many"] FLawPool :=
  own_of F scLawPool hb hm fun cdv A outer s H E hr =>
    (mss_cons (ms_set (i := 3) scLawPool.nd rfl (.inl rfl) (m_lst ma_nil))
    (mss_cons (ms_for (t := (.name 4)) PassesOwn.never rfl (mi_rng1 rfl nb_range (m_var 2)) (pg_name (i := 4) scLawPool.nd rfl (.inl rfl)) (mss_cons (ms_set (i := 5) scLawPool.nd rfl (.inl rfl) (m_call OLawName hr rfl (ma_cons (m_var 0) (ma_cons (m_var 1) ma_nil))))
    (mss_cons (ms_set (i := 6) scLawPool.nd rfl (.inl rfl) (m_slice sl_any f_sl (m_var 5) mp_none (mp_some m_int)))
    (mss_cons (ms_for (t := (.name 7)) PassesOwn.never rfl (mi_rng1 rfl nb_range (m_op op_addA f_add (m_var 2) m_int)) (pg_name (i := 7) scLawPool.nd rfl (.inl rfl)) (mss_one (ms_if (mt_cmp (op_inA (hu65 hr)) f_in (m_var 5) (m_var 3) (by with_unfolding_all rfl)) (mss_one (ms_set (i := 5) scLawPool.nd rfl (.inl rfl) (m_op op_addA f_add (m_op op_addA f_add (m_var 6) m_str) (m_callTy call_str_int f_str1 rfl nb_str (by decide +kernel) (ma_cons (m_var 7) ma_nil))))) mss_nil)))
    (mss_one (ms_expr (m_append (m_var 3) (ma_cons (m_var 5) ma_nil))))))))
    (mss_one (ms_ret (m_var 3)))))
theorem okLawEntry {P : Program} {w : World} {K : PySem.W.Frag} {mg : Str → Option Value} {base : Heap} {f : Addr} {fd : FuncData} {k : Nat} (F : Fun K "_law_entry" "_law_entry" sLawEntry f fd) (hb : Binds K fd ["draws", "small", "large", "k"] []) (hm : mg "_law_entry" = some (.ref f)) (OLawTake : Own P w K mg base k "_law_take" ["draws", "bound"] FLawTake) : Own P w K mg base (k + 1) "_law_entry" ["draws", "small", "large", "k"] FLawEntry :=
  own_of F scLawEntry hb hm fun cdv A outer s H E hr =>
    (mss_cons (ms_set (i := 4) scLawEntry.nd rfl (.inl rfl) (m_call OLawTake hr rfl (ma_cons (m_var 0) (ma_cons m_int ma_nil))))
    (mss_cons (ms_set (i := 5) scLawEntry.nd rfl (.inl rfl) (m_ix ix_seq f_ix (m_var 1) (m_call OLawTake hr rfl (ma_cons (m_var 0) (ma_cons m_int ma_nil))) (fun _ _ => rfl)))
    (mss_cons (ms_set (i := 6) scLawEntry.nd rfl (.inl rfl) (m_ix ix_seq f_ix (m_var 2) (m_call OLawTake hr rfl (ma_cons (m_var 0) (ma_cons m_int ma_nil))) (fun _ _ => rfl)))
    (mss_cons (ms_set (i := 7) scLawEntry.nd rfl (.inl rfl) (m_call OLawTake hr rfl (ma_cons (m_var 0) (ma_cons m_int ma_nil))))
    (mss_cons (ms_set (i := 8) scLawEntry.nd rfl (.inl rfl) (m_tup (ma_cons m_str (ma_cons (m_var 7) (ma_cons (m_tup ma_nil) ma_nil)))))
    (mss_cons (ms_if (mt_cmp (op_eqA hr.units) f_eq (m_var 4) m_int (nomark _)) (mss_one (ms_ret (m_tup (ma_cons m_str (ma_cons (m_var 5) (ma_cons (m_tup (ma_cons m_int (ma_cons (m_var 8) ma_nil))) ma_nil)))))) mss_nil)
    (mss_cons (ms_if (mt_cmp (op_eqA hr.units) f_eq (m_var 4) m_int (nomark _)) (mss_one (ms_ret (m_tup (ma_cons m_str (ma_cons (m_var 5) (ma_cons m_int (ma_cons (m_var 8) ma_nil))))))) mss_nil)
    (mss_cons (ms_if (mt_cmp (op_eqA hr.units) f_eq (m_var 4) m_int (nomark _)) (mss_one (ms_ret (m_tup (ma_cons m_str (ma_cons (m_var 6) (ma_cons m_int (ma_cons m_non (ma_cons (m_var 8) (ma_cons (m_var 3) (ma_cons (m_tup (ma_cons (m_tup (ma_cons (m_var 6) (ma_cons m_bl ma_nil))) ma_nil)) ma_nil)))))))))) mss_nil)
    (mss_cons (ms_if (mt_cmp (op_eqA hr.units) f_eq (m_var 4) m_int (nomark _)) (mss_one (ms_ret (m_tup (ma_cons m_str (ma_cons (m_var 6) (ma_cons m_non ma_nil)))))) mss_nil)
    (mss_cons (ms_if (mt_cmp (op_eqA hr.units) f_eq (m_var 4) m_int (nomark _)) (mss_one (ms_ret (m_tup (ma_cons m_str (ma_cons (m_var 5) (ma_cons (m_var 8) ma_nil)))))) mss_nil)
    (mss_cons (ms_if (mt_cmp (op_eqA hr.units) f_eq (m_var 4) m_int (nomark _)) (mss_one (ms_ret (m_tup (ma_cons m_str (ma_cons (m_var 6) (ma_cons (m_tup (ma_cons (m_tup (ma_cons m_str (ma_cons (m_var 5) (ma_cons (m_tup (ma_cons m_int (ma_cons (m_var 8) ma_nil))) ma_nil)))) ma_nil)) ma_nil)))))) mss_nil)
    (mss_cons (ms_if (mt_cmp (op_eqA hr.units) f_eq (m_var 4) m_int (nomark _)) (mss_one (ms_ret (m_tup (ma_cons m_str (ma_cons (m_var 6) (ma_cons (m_tup (ma_cons (m_tup ma_nil) (ma_cons (m_tup ma_nil) ma_nil))) (ma_cons (m_tup ma_nil) (ma_cons (m_tup ma_nil) ma_nil)))))))) mss_nil)
    (mss_one (ms_ret (m_tup (ma_cons m_str (ma_cons (m_var 6) (ma_cons (m_tup (ma_cons (m_tup ma_nil) (ma_cons (m_tup ma_nil) ma_nil))) ma_nil))))))))))))))))))
theorem okLawSpace {P : Program} {w : World} {K : PySem.W.Frag} {mg : Str → Option Value} {base : Heap} {f : Addr} {fd : FuncData} {k : Nat} (F : Fun K "_law_space" "_law_space" sLawSpace f fd) (hb : Binds K fd ["entry"] []) (hm : mg "_law_space" = some (.ref f)) : Own P w K mg base (k + 1) "_law_space" ["entry"] FLawSpace :=
  own_of F scLawSpace hb hm fun cdv A outer s H E hr =>
    (mss_cons (ms_if (mt_cmp (op_eqA hr.units) f_eq (m_ix ix_seq f_ix (m_var 0) m_int (fun _ _ => rfl)) m_str (nomark _)) (mss_one (ms_ret m_str)) mss_nil)
    (mss_one (ms_ret (m_ix ix_seq f_ix (m_var 0) m_int (fun _ _ => rfl)))))
theorem okLawNamed {P : Program} {w : World} {K : PySem.W.Frag} {mg : Str → Option Value} {base : Heap} {f : Addr} {fd : FuncData} {k : Nat} (F : Fun K "_law_named" "_law_named" sLawNamed f fd) (hb : Binds K fd ["last", "tag"] []) (hm : mg "_law_named" = some (.ref f)) (nb_sorted : mg "sorted" = none) : Own P w K mg base (k + 1) "_law_named" ["last", "tag"] FLawNamed :=
  own_of F scLawNamed hb hm fun cdv A outer s H E hr =>
    (mss_cons (ms_set (i := 2) scLawNamed.nd rfl (.inl rfl) (m_callB cr_sortedS f_sortedS rfl nb_sorted (by decide +kernel) (ma_cons (m_lkET (l := 0) (m_lc (own := [("key", 4)]) (t := (.name 4)) (u := (bTest (eOp gEq (eOp gIx (eTgetW (eVar 0) (eVar 4)) (eC (.int 0))) (eVar 1)))) (f := (eOp gIx (eVar 4) (eC (.int 1)))) (by decide) rfl scLawNamed.nd (mi_keysT 0) (blkOk_by (own := [("key", 4)]) (N := ["last", "tag", "names", "space", "key", "name"]) (sc := defScope sLawNamed) (by decide +kernel)) (fun _ _ _ _ _ => (pg_name (i := 4) scLawNamed.nd rfl (.inl rfl))) (fun _ _ _ _ _ => (mts_one (mt_cmp (op_eqA hr.units) f_eq (m_ix ix_seq f_ix (m_tgetW (hu_of hr) (m_var 0) (m_var 4) (fun _ _ => rfl)) m_int (fun _ _ => rfl)) (m_var 1) (nomark _)))) (fun _ _ _ _ _ => (m_ix ix_seq f_ix (m_var 4) m_int (fun _ _ => rfl))))) ma_nil)))
    (mss_cons (ms_set (i := 3) scLawNamed.nd rfl (.inr rfl) (m_var 1))
    (mss_cons (ms_if (mt_cmp (op_eqA hr.units) f_eq (m_var 1) m_str (nomark _)) (mss_one (ms_set (i := 3) scLawNamed.nd rfl (.inr rfl) m_str)) mss_nil)
    (mss_one (ms_ret (m_lc (own := [("name", 5)]) (t := (.name 5)) (u := bYes) (f := (eTget (eVar 0) (aCons (eVar 3) (aCons (eVar 5) aNil)))) (by decide) rfl scLawNamed.nd (mi_seq (m_var 2)) (blkOk_by (own := [("name", 5)]) (N := ["last", "tag", "names", "space", "key", "name"]) (sc := defScope sLawNamed) (by decide +kernel)) (fun _ _ _ _ _ => (pg_name (i := 5) scLawNamed.nd rfl (.inl rfl))) (fun _ _ _ _ _ => mts_nil) (fun _ _ _ _ _ => (m_tget (hu_of hr) (m_var 0) (ma_cons (m_var 3) (ma_cons (m_var 5) ma_nil)) (fun _ _ => rfl)))))))))
theorem okLawDue {P : Program} {w : World} {K : PySem.W.Frag} {mg : Str → Option Value} {base : Heap} {f : Addr} {fd : FuncData} {k : Nat} (F : Fun K "_law_due" "_law_due" sLawDue f fd) (hb : Binds K fd ["entries"] []) (hm : mg "_law_due" = some (.ref f)) (OLawNamed : Own P w K mg base k "_law_named" ["last", "tag"] FLawNamed) (OLawSpace : Own P w K mg base k "_law_space" ["entry"] FLawSpace) (nb_sorted : mg "sorted" = none) : Own P w K mg base (k + 1) "_law_due" ["entries"] FLawDue :=
  own_of F scLawDue hb hm fun cdv A outer s H E hr =>
    (mss_cons (ms_set (i := 1) scLawDue.nd rfl (.inr rfl) m_tnew)
    (mss_cons (ms_for (t := (.name 2)) PassesOwn.never rfl (mi_seq (m_var 0)) (pg_name (i := 2) scLawDue.nd rfl (.inl rfl)) (mss_one (ms_tput (hu_of hr) (m_var 1) (ma_cons (m_call OLawSpace hr rfl (ma_cons (m_var 2) ma_nil)) (ma_cons (m_ix ix_seq f_ix (m_var 2) m_int (fun _ _ => rfl)) ma_nil)) (m_var 2))))
    (mss_cons (ms_set (i := 3) scLawDue.nd rfl (.inl rfl) (m_op op_addA f_add (m_call OLawNamed hr rfl (ma_cons (m_var 1) (ma_cons m_str ma_nil))) (m_call OLawNamed hr rfl (ma_cons (m_var 1) (ma_cons m_str ma_nil)))))
    (mss_cons (ms_lkT (l := 1) (ms_setLc (i := 4) (own := [("key", 6)]) (t := (.name 6)) (u := (bTest (eOp gEq (eOp gIx (eTgetW (eVar 1) (eVar 6)) (eC (.int 0))) (eC (.str "con"))))) (f := (eTgetW (eVar 1) (eVar 6))) (by decide) rfl scLawDue.nd rfl rfl (sw_true rfl rfl rfl (by decide +kernel)) (mi_keysT 1) (blkOk_by (own := [("key", 6)]) (N := ["entries", "last", "entry", "due", "constructors", "place", "key"]) (sc := defScope sLawDue) (by decide +kernel)) (fun _ _ _ _ _ => (pg_name (i := 6) scLawDue.nd rfl (.inl rfl))) (fun _ _ _ _ _ => (mts_one (mt_cmp (op_eqA hr.units) f_eq (m_ix ix_seq f_ix (m_tgetW (hu_of hr) (m_var 1) (m_var 6) (fun _ _ => rfl)) m_int (fun _ _ => rfl)) m_str (nomark _)))) (fun _ _ _ _ _ => (m_tgetW (hu_of hr) (m_var 1) (m_var 6) (fun _ _ => rfl)))))
    (mss_cons (ms_for (t := (.name 5)) PassesOwn.never rfl (mi_seq (m_callB (cr_sortT (hu65 hr)) f_sortT rfl nb_sorted (by decide +kernel) (ma_cons (m_lc (own := [("entry", 2)]) (t := (.name 2)) (u := bYes) (f := (eTup (aCons (eOp gIx (eOp gIx (eVar 2) (eC (.int 4))) (eC (.int 1))) (aCons (eOp gIx (eVar 2) (eC (.int 5))) aNil)))) (by decide) rfl scLawDue.nd (mi_seq (m_var 4)) (blkOk_by (own := [("entry", 2)]) (N := ["entries", "last", "entry", "due", "constructors", "place", "key"]) (sc := defScope sLawDue) (by decide +kernel)) (fun _ _ _ _ _ => (pg_name (i := 2) scLawDue.nd rfl (.inl rfl))) (fun _ _ _ _ _ => mts_nil) (fun _ _ _ _ _ => (m_tup (ma_cons (m_ix ix_seq f_ix (m_ix ix_seq f_ix (m_var 2) m_int (fun _ _ => rfl)) m_int (fun _ _ => rfl)) (ma_cons (m_ix ix_seq f_ix (m_var 2) m_int (fun _ _ => rfl)) ma_nil))))) ma_nil))) (pg_name (i := 5) scLawDue.nd rfl (.inl rfl)) (mss_one (ms_for (t := (.name 2)) PassesOwn.never rfl (mi_seq (m_var 4)) (pg_name (i := 2) scLawDue.nd rfl (.inl rfl)) (mss_one (ms_if (mt_cmp (op_eqA hr.units) f_eq (m_tup (ma_cons (m_ix ix_seq f_ix (m_ix ix_seq f_ix (m_var 2) m_int (fun _ _ => rfl)) m_int (fun _ _ => rfl)) (ma_cons (m_ix ix_seq f_ix (m_var 2) m_int (fun _ _ => rfl)) ma_nil))) (m_var 5) (nomark _)) (mss_one (ms_expr (m_append (m_var 3) (ma_cons (m_var 2) ma_nil)))) mss_nil)))))
    (mss_one (ms_ret (m_op op_addA f_add (m_op op_addA f_add (m_op op_addA f_add (m_var 3) (m_call OLawNamed hr rfl (ma_cons (m_var 1) (ma_cons m_str ma_nil)))) (m_call OLawNamed hr rfl (ma_cons (m_var 1) (ma_cons m_str ma_nil)))) (m_call OLawNamed hr rfl (ma_cons (m_var 1) (ma_cons m_str ma_nil)))))))))))
theorem okLaw {P : Program} {w : World} {K : PySem.W.Frag} {mg : Str → Option Value} {base : Heap} {f : Addr} {fd : FuncData} {k : Nat} (F : Fun K "law" "law" sLaw f fd) (OTidy : Own P w K mg base k "tidy" ["entries"] FTidy) (OLawDue : Own P w K mg base k "_law_due" ["entries"] FLawDue) (OLawTake : Own P w K mg base k "_law_take" ["draws", "bound"] FLawTake) (OLawEntry : Own P w K mg base k "_law_entry" ["draws", "small", "large", "k"] FLawEntry) (OLawPool : Own P w K mg base k "_law_pool" ["draws", "capital", "many"] FLawPool) (OLawDraws : Own P w K mg base k "_law_draws" ["script", "count"] FLawDraws) (nb_isinstance : mg "isinstance" = none) (nb_range : mg "range" = none) (nb_tuple : mg "tuple" = none) : FnOk P w K mg base CX0 (k + 1) f fd ["script"] (spF K 1 FLaw) :=
  fnm_of F scLaw fun cdv A outer s H E hr =>
    (mss_cons (ms_set (i := 1) scLaw.nd rfl (.inr rfl) (m_call OLawDraws hr rfl (ma_cons (m_var 0) (ma_cons m_int ma_nil))))
    (mss_cons (ms_set (i := 2) scLaw.nd rfl (.inr rfl) (m_call OLawPool hr rfl (ma_cons (m_var 1) (ma_cons m_bl (ma_cons m_int ma_nil)))))
    (mss_cons (ms_set (i := 3) scLaw.nd rfl (.inr rfl) (m_call OLawPool hr rfl (ma_cons (m_var 1) (ma_cons m_bl (ma_cons m_int ma_nil)))))
    (mss_cons (ms_set (i := 4) scLaw.nd rfl (.inl rfl) (m_callTy call_tuple_of f_tuple rfl nb_tuple (by decide +kernel) (ma_cons (m_lc (own := [("k", 6)]) (t := (.name 6)) (u := bYes) (f := (eFn FLawEntry (aCons (eVar 1) (aCons (eVar 2) (aCons (eVar 3) (aCons (eVar 6) aNil)))))) (by decide) rfl scLaw.nd (mi_rng1 rfl nb_range (m_call OLawTake hr rfl (ma_cons (m_var 1) (ma_cons m_int ma_nil)))) (blkOk_by (own := [("k", 6)]) (N := ["script", "draws", "small", "large", "entries", "level", "k"]) (sc := defScope sLaw) (by decide +kernel)) (fun _ _ _ _ _ => (pg_name (i := 6) scLaw.nd rfl (.inl rfl))) (fun _ _ _ _ _ => mts_nil) (fun _ _ _ _ _ => (m_call OLawEntry hr rfl (ma_cons (m_var 1) (ma_cons (m_var 2) (ma_cons (m_var 3) (ma_cons (m_var 6) ma_nil))))))) ma_nil)))
    (mss_cons (ms_set (i := 5) scLaw.nd rfl (.inl rfl) (m_call OTidy hr rfl (ma_cons (m_var 4) ma_nil)))
    (mss_cons (ms_if (mt_not (mt_truth (m_isi kit_tuple rfl nb_isinstance rfl nb_tuple (by decide +kernel) (m_var 5)))) (mss_one (ms_ret m_bl)) mss_nil)
    (mss_cons (ms_if (mt_cmp (op_neA hr.units) f_ne (m_var 5) (m_callTy call_tuple_of f_tuple rfl nb_tuple (by decide +kernel) (ma_cons (m_call OLawDue hr rfl (ma_cons (m_var 4) ma_nil)) ma_nil)) (nomark _)) (mss_one (ms_ret m_bl)) mss_nil)
    (mss_one (ms_ret (m_cmp (op_eqA hr.units) f_eq (m_call OTidy hr rfl (ma_cons (m_var 5) ma_nil)) (m_var 5) (nomark _)))))))))))
end K44

section
open PySem PySem.Spec PyProof.Rows L2 Mir
local macro_rules
  | `(tactic| simp! only [$ls,*]) => `(tactic| repeat first | with_reducible refine Eq.mpr wps_cons ?_ | with_reducible refine Eq.mpr wps_pass ?_ | with_reducible refine Eq.mpr wps_nil ?_ | with_reducible refine Eq.mpr wps_set ?_ | with_reducible refine Eq.mpr wps_do ?_ | with_reducible refine Eq.mpr wps_ret ?_ | with_reducible refine Eq.mpr wps_retN ?_ | with_reducible refine Eq.mpr wps_brk ?_ | with_reducible refine Eq.mpr wps_cnt ?_ | with_reducible refine Eq.mpr wps_if ?_ | with_reducible refine Eq.mpr wps_asg ?_ | with_reducible refine wps_asgL ?_ | with_reducible refine Eq.mpr wps_put ?_ | with_reducible refine Eq.mpr wps_dput ?_ | with_reducible refine Eq.mpr wps_aug ?_ | with_reducible refine Eq.mpr wps_par ?_ | with_reducible refine Eq.mpr wps_for ?_ | with_reducible refine Eq.mpr wps_wh ?_ | with_reducible refine wh_go ?_ | with_reducible refine fo_goN ?_ | with_reducible refine fo_goC ?_ | simp only [wp_tup0, wp_tup1, wp_tup2, wp_tup3, wp_tup4, wp_tup5, wp_tup6, wp_tup7, wp_lst0, wp_lst1, wp_lst2, wp_lst3, wp_lst4, wp_lst5, wp_lst6, wp_lst7, wp_lst8, wp_lst9, wp_lst10, wp_lst11, wp_lst12, wp_bd, wp_lc, ql_nx, ql_ct, ql_bk, ql_rt, iSeq, iEnu, Mir.iRev, chkR, chkT, chkO, lstO, wp_some, wp_ite, wp_none, bd_some, eVar, eC, eOp, eUn, eFn, eMt, aNil, aCons,  eAnd, eOr, eNot, eIf, eIsi, eChain, bTest, bTruth, bAnd, bOr, bNot, bYes, eSl, pNo, pAt, eRinA, eRinB, eDnew, eDin, eDget, eDget2, tgM_name, tgM_tup, tgMs_nil, tgMs_name, tgMs_tup, List.getElem?_cons_succ, List.getElem?_cons_zero, List.set_cons_succ, List.set_cons_zero, List.map_cons, List.map_nil, List.length_cons, List.length_nil, List.replicate, List.nil_append, List.cons_append, if_true, if_false, Bool.false_eq_true, Bool.true_eq_false, Nat.reduceAdd, Nat.reduceSub, Nat.reduceLeDiff, Nat.zero_add, Bool.not_true, Bool.not_false, nc0, nc1, nc2, nc3, not_true_eq_false, not_false_eq_true, ii, addI, subI, negI, int1, eqI, neI, eqS, neS, ix0, ix1, ix2, ix3, decide_eq_true_eq, Bool.not_eq_true', decide_eq_false_iff_not, truB, truN, keyI, keyS, lenT, wipeM, qw_nx, qw_ct, qw_bk, qw_rt, qf_nx, qf_ct, qf_bk, qf_rt, okN, lcf_goN, lcf_goC, lcf_goT, slT1, slT2, List.drop_succ_cons, List.drop_zero, List.take_succ_cons, List.take_zero, true_and, and_true, ofString_inj, String.reduceEq, decide_true, decide_false, Bool.or_self, Bool.or_true, Bool.true_or, Bool.or_false, Bool.false_or, Bool.and_self, Bool.and_true, Bool.true_and, Bool.and_false, Bool.false_and, isN, isnN, Mir.isNon, truB, $ls,*])
local macro_rules
  | `(tactic| simp_all! only [$ls,*]) => `(tactic| repeat first | with_reducible refine Eq.mpr wps_cons ?_ | with_reducible refine Eq.mpr wps_pass ?_ | with_reducible refine Eq.mpr wps_nil ?_ | with_reducible refine Eq.mpr wps_set ?_ | with_reducible refine Eq.mpr wps_do ?_ | with_reducible refine Eq.mpr wps_ret ?_ | with_reducible refine Eq.mpr wps_retN ?_ | with_reducible refine Eq.mpr wps_brk ?_ | with_reducible refine Eq.mpr wps_cnt ?_ | with_reducible refine Eq.mpr wps_if ?_ | with_reducible refine Eq.mpr wps_asg ?_ | with_reducible refine wps_asgL ?_ | with_reducible refine Eq.mpr wps_put ?_ | with_reducible refine Eq.mpr wps_dput ?_ | with_reducible refine Eq.mpr wps_aug ?_ | with_reducible refine Eq.mpr wps_par ?_ | with_reducible refine Eq.mpr wps_for ?_ | with_reducible refine Eq.mpr wps_wh ?_ | simp only [wp_tup0, wp_tup1, wp_tup2, wp_tup3, wp_tup4, wp_tup5, wp_tup6, wp_tup7, wp_lst0, wp_lst1, wp_lst2, wp_lst3, wp_lst4, wp_lst5, wp_lst6, wp_lst7, wp_lst8, wp_lst9, wp_lst10, wp_lst11, wp_lst12, wp_bd, wp_lc, ql_nx, ql_ct, ql_bk, ql_rt, iSeq, iEnu, Mir.iRev, chkR, chkT, chkO, lstO, wp_some, wp_ite, wp_none, bd_some, eVar, eC, eOp, eUn, eFn, eMt, aNil, aCons,  eAnd, eOr, eNot, eIf, eIsi, eChain, bTest, bTruth, bAnd, bOr, bNot, bYes, eSl, pNo, pAt, eRinA, eRinB, eDnew, eDin, eDget, eDget2, tgM_name, tgM_tup, tgMs_nil, tgMs_name, tgMs_tup, List.getElem?_cons_succ, List.getElem?_cons_zero, List.set_cons_succ, List.set_cons_zero, List.map_cons, List.map_nil, List.length_cons, List.length_nil, List.replicate, List.nil_append, List.cons_append, if_true, if_false, Bool.false_eq_true, Bool.true_eq_false, Nat.reduceAdd, Nat.reduceSub, Nat.reduceLeDiff, Nat.zero_add, Bool.not_true, Bool.not_false, nc0, nc1, nc2, nc3, not_true_eq_false, not_false_eq_true, ii, addI, subI, negI, int1, eqI, neI, eqS, neS, ix0, ix1, ix2, ix3, decide_eq_true_eq, Bool.not_eq_true', decide_eq_false_iff_not, truB, truN, keyI, keyS, lenT, wipeM, $ls,*])
local macro_rules
  | `(tactic| dsimp! only [$ls,*]) => `(tactic| simp only [wp_tup0, wp_tup1, wp_tup2, wp_tup3, wp_tup4, wp_tup5, wp_tup6, wp_tup7, wp_lst0, wp_lst1, wp_lst2, wp_lst3, wp_lst4, wp_lst5, wp_lst6, wp_lst7, wp_lst8, wp_lst9, wp_lst10, wp_lst11, wp_lst12, wp_bd, wp_lc, ql_nx, ql_ct, ql_bk, ql_rt, iSeq, iEnu, Mir.iRev, chkR, chkT, chkO, lstO, wp_some, wp_ite, wp_none, bd_some, eVar, eC, eOp, eUn, eFn, eMt, aNil, aCons,  eAnd, eOr, eNot, eIf, eIsi, eChain, bTest, bTruth, bAnd, bOr, bNot, bYes, eSl, pNo, pAt, eRinA, eRinB, eDnew, eDin, eDget, eDget2, tgM_name, tgM_tup, tgMs_nil, tgMs_name, tgMs_tup, List.getElem?_cons_succ, List.getElem?_cons_zero, List.set_cons_succ, List.set_cons_zero, List.map_cons, List.map_nil, List.length_cons, List.length_nil, List.replicate, List.nil_append, List.cons_append, if_true, if_false, Bool.false_eq_true, Bool.true_eq_false, Nat.reduceAdd, Nat.reduceSub, Nat.reduceLeDiff, Nat.zero_add, Bool.not_true, Bool.not_false, nc0, nc1, nc2, nc3, not_true_eq_false, not_false_eq_true, ii, addI, subI, negI, int1, eqI, neI, eqS, neS, ix0, ix1, ix2, ix3, decide_eq_true_eq, Bool.not_eq_true', decide_eq_false_iff_not, truB, truN, keyI, keyS, lenT, wipeM, $ls,*])
set_option Elab.async false
set_option linter.all false
set_option maxRecDepth 100000
namespace K44
open PySem PySem.Spec PyProof.Rows L2 Mir
theorem gtI {i j : Int} {s : Sto} : gGt (.int i) (.int j) s = some (.bl (decide (j < i)), s) := rfl
theorem geI {i j : Int} {s : Sto} : gGe (.int i) (.int j) s = some (.bl (decide (j ≤ i)), s) := rfl
theorem ltI {i j : Int} {s : Sto} : gLt (.int i) (.int j) s = some (.bl (decide (i < j)), s) := rfl
def kAt : Key := .inr "at"
def kRow : Key := .inr "row"
structure Drw (s : Sto) (d rr : Nat) : Prop where
  dct : ∃ n : Nat, s[d]? = some (.dct [(kAt, .int (n : Int)), (kRow, .ref rr)])
  row : ∃ cs : List Int, s[rr]? = some (.lst (wi cs)) ∧ cs.length = 120
theorem Drw.ne {s : Sto} {d rr : Nat} (D : Drw s d rr) : d ≠ rr := fun h => by
  obtain ⟨n, e⟩ := D.dct
  obtain ⟨cs, e', _⟩ := D.row
  rw [h, e'] at e
  cases e
theorem Drw.fr {s s' : Sto} {d rr : Nat} {L : List Nat} (D : Drw s d rr) (f : Mir.Fr L s s') (h1 : d ∉ L) (h2 : rr ∉ L) : Drw s' d rr := by
  obtain ⟨n, e⟩ := D.dct
  obtain ⟨cs, e', l⟩ := D.row
  exact ⟨⟨n, f.at_ _ _ h1 e⟩, ⟨cs, f.at_ _ _ h2 e', l⟩⟩
theorem Drw.app {s t : Sto} {d rr : Nat} (D : Drw s d rr) : Drw (s ++ t) d rr := D.fr (L := []) Fr.app (by simp) (by simp)
theorem Drw.lt {s : Sto} {d rr : Nat} (D : Drw s d rr) : d < s.length ∧ rr < s.length := by
  obtain ⟨n, e⟩ := D.dct
  obtain ⟨cs, e', l⟩ := D.row
  exact ⟨gltn e, gltn e'⟩
theorem put_at {x y w : W} : put [(kAt, x), (kRow, y)] kAt w = [(kAt, w), (kRow, y)] := by simp [put, kAt, kRow, ofString_inj]
theorem look_at {x y : W} : look [(kAt, x), (kRow, y)] kAt = some x := by simp [look]
theorem look_row {x y : W} : look [(kAt, x), (kRow, y)] kRow = some y := by simp [look, kAt, kRow, ofString_inj]
section
variable {s : Sto} {R : W → Sto → Prop} {d rr : Nat}
set_option maxHeartbeats 0 in
theorem take_ok (D : Drw s d rr) (m : Nat) (h0 : 0 < m) (h1 : m ≤ 100000) (h : ∀ (k : Nat) s', k < m → Drw s' d rr → Mir.Fr [d] s s' → s'.length = s.length → R (.int (k : Int)) s') : Wp (FLawTake [.ref d, .int (m : Int)] s) R := by
  obtain ⟨n, e⟩ := D.dct
  obtain ⟨cs, e', l⟩ := D.row
  have ne := D.ne
  unfold FLawTake
  rw [wp_mkF (by rfl)]
  unfold BLawTake
  have dc := dcR e
  have lr : look [(kAt, .int (n : Int)), (kRow, .ref rr)] (.inr "row") = some (.ref rr) := look_row
  have la : look [(kAt, .int (n : Int)), (kRow, .ref rr)] (.inr "at") = some (.int (n : Int)) := look_at
  have pa : put [(kAt, .int (n : Int)), (kRow, .ref rr)] (.inr "at") (.int ((n : Int) + 1)) = [(kAt, .int ((n : Int) + 1)), (kRow, .ref rr)] := put_at
  have l2 : (2 ≤ 100000) = True := by simp
  simp_all! only [dc, lr, la, pa, l2, true_and]
  generalize hs : s.set d (.dct [(kAt, .int ((n : Int) + 1)), (kRow, .ref rr)]) = s1
  have e1 : s1[d]? = some (.dct [(kAt, .int (((n + 1 : Nat)) : Int)), (kRow, .ref rr)]) := by rw [← hs]; exact getset e
  have e2 : s1[rr]? = some (.lst (wi cs)) := by rw [← hs, getne ne.symm]; exact e'
  have f1 : Mir.Fr [d] s s1 := by rw [← hs]; exact Mir.Fr.set (by simp)
  have ls : s1.length = s.length := by rw [← hs]; simp
  have ll : gLen [.ref rr] s1 = some (.int 120, s1) := by rw [lenL e2, List.length_map, l]; rfl
  have md : gMod (.int (n : Int)) (.int 120) s1 = some (.int ((n % 120 : Nat) : Int), s1) := by rw [modR (by decide)]; rfl
  have dv : gDivW (.int (n : Int)) (.int 120) s1 = some (.int ((n : Int) / 120), s1) := divRW (by decide) (by decide)
  have hlt : n % 120 < cs.length := by rw [l]; exact Nat.mod_lt _ (by decide)
  have gx : gIx (.ref rr) (.int ((n % 120 : Nat) : Int)) s1 = some (.int cs[n % 120], s1) := ixI e2 (List.getElem?_eq_getElem hlt)
  have md2 : ∀ i : Int, gMod (.int i) (.int (m : Int)) s1 = some (.int (i % (m : Int)), s1) := fun i => modR (by omega)
  simp_all! only [ll, md, gx, dv, md2]
  have lo := Int.emod_nonneg (cs[n % 120] + (n : Int) / 120) (show (m : Int) ≠ 0 by omega)
  have hi := Int.emod_lt_of_pos (cs[n % 120] + (n : Int) / 120) (show (0 : Int) < (m : Int) by omega)
  obtain ⟨k, hk⟩ : ∃ k : Nat, (cs[n % 120] + (n : Int) / 120) % (m : Int) = (k : Int) := ⟨_, (Int.toNat_of_nonneg lo).symm⟩
  rw [hk]
  exact h k s1 (by omega) ⟨⟨_, e1⟩, ⟨cs, e2, l⟩⟩ f1 ls
theorem mix_ok {i j : Int} (h : ∀ k : Int, R (.int k) s) : Wp (FLawMix [.int i, .int j] s) R := by
  unfold FLawMix
  rw [wp_mkF (by rfl)]
  unfold BLawMix
  have m1 : ∀ (i : Int) (s : Sto), Mir.gMul (.int i) (.int 48271) s = some (.int (i * 48271), s) := fun i s => mulR (by decide) (by decide)
  have m2 : ∀ (i : Int) (s : Sto), Mir.gMul (.int i) (.int 69621) s = some (.int (i * 69621), s) := fun i s => mulR (by decide) (by decide)
  have m3 : ∀ (i : Int) (s : Sto), Mir.gMul (.int i) (.int 40692) s = some (.int (i * 40692), s) := fun i s => mulR (by decide) (by decide)
  have m4 : ∀ (i : Int) (s : Sto), Mir.gMul (.int i) (.int 7919) s = some (.int (i * 7919), s) := fun i s => mulR (by decide) (by decide)
  have d1 : ∀ (i : Int) (s : Sto), gMod (.int i) (.int 2147483647) s = some (.int (i % 2147483647), s) := fun i s => modR (by decide)
  have d2 : ∀ (i : Int) (s : Sto), gMod (.int i) (.int 2147483399) s = some (.int (i % 2147483399), s) := fun i s => modR (by decide)
  simp_all! only [m1, m2, m3, m4, d1, d2]
  exact h _
theorem appI {n : Nat} {s : Sto} {l : List Int} {i : Int} (h : s[n]? = some (.lst (wi l))) (hl : l.length ≤ 100000) : gAppend (.ref n) [.int i] s = some (.non, s.set n (.lst (wi (l ++ [i])))) := by
  have := appL (w := .int i) h (by simpa using hl)
  rw [this]
  simp [wi]
theorem rng_at {i k : Nat} {w : W} (hi : ((List.range k).map fun j : Nat => W.int (j : Int))[i]? = some w) : w = .int (i : Int) ∧ i < k := by
  rw [List.getElem?_map] at hi
  obtain ⟨y, hy, rfl⟩ := Option.map_eq_some_iff.mp hi
  obtain ⟨hl, e⟩ := List.getElem?_eq_some_iff.mp hy
  rw [← e, List.getElem_range]
  exact ⟨rfl, by simpa using hl⟩
set_option maxHeartbeats 0 in
theorem numbers_ok {ns : List Int} (h : ∀ r s' cs, s'[r]? = some (.lst (wi cs)) → cs.length = 120 → Mir.Fr [] s s' → R (.ref r) s') : Wp (FLawNumbers [.lro (ns.map W.int), .int 120] s) R := by
  unfold FLawNumbers
  rw [wp_mkF (by rfl)]
  unfold BLawNumbers
  have e10 : ∀ s : Sto, gPow (.int 10) (.int 18) s = some (.int 1000000000000000000, s) := fun s => by
    have h : decide ((0 : Int) ≤ 18 ∧ (18 : Int) ≤ 1000000 ∧ (10 : Int).natAbs < 2 ^ 64) = true := by decide
    simp only [gIIc, h, if_true]
    rfl
  have ab : ∀ (i : Int) (s : Sto), gAbs [.int i] s = some (.int (if i < 0 then -i else i), s) := fun i s => rfl
  have d1 : ∀ (i : Int) (s : Sto), gMod (.int i) (.int 2147483647) s = some (.int (i % 2147483647), s) := fun i s => modR (by decide)
  have d2 : ∀ (i : Int) (s : Sto), gMod (.int i) (.int 1000) s = some (.int (i % 1000), s) := fun i s => modR (by decide)
  have d3 : ∀ (i : Int) (s : Sto), gDiv (.int i) (.int 1000) s = some (.int (i / 1000), s) := fun i s => divR (by decide) (by decide)
  have sl : ∀ s : Sto, gSlA (.lro (ns.map W.int)) none (some 63) s = some (.ref s.length, s ++ [.lst (wi (ns.take 63))]) := fun s => by
    have k0 : HT.sIx (ns.map W.int).length 0 none = 0 := rfl
    have k1 : HT.sIx (ns.map W.int).length (ns.map W.int).length (some ((63 : Nat) : Int)) = min 63 (ns.map W.int).length := HT.sIx_nat ..
    have k1 : HT.sIx (ns.map W.int).length (ns.map W.int).length (some 63) = min 63 (ns.map W.int).length := k1
    simp only [gSlA, lstO, k0, k1, List.drop_zero, Nat.sub_zero]
    congr 4
    rw [wi, List.map_take]
    rcases Nat.le_total 63 (ns.map W.int).length with h | h
    · rw [Nat.min_eq_left h]
    · rw [Nat.min_eq_right h, List.take_length, List.take_of_length_le h]
  simp_all! only [lenR, sl]
  have g0 : (s ++ [.lst []] ++ [.lst (wi (ns.take 63))])[s.length]? = some (.lst (wi [])) := gapp gnew
  have g1 : (s ++ [.lst []] ++ [.lst (wi (ns.take 63))])[(s ++ [.lst []] : Sto).length]? = some (.lst (wi (ns.take 63))) := gnew
  have f0 : Mir.Fr [s.length] s (s ++ [.lst []] ++ [.lst (wi (ns.take 63))]) := Fr.app.trans Fr.app
  have nn : (s ++ [.lst []] : Sto).length ≠ s.length := by simp
  generalize (s ++ [.lst []] ++ [.lst (wi (ns.take 63))]) = s1 at g0 g1 f0 ⊢
  generalize (s ++ [.lst []] : Sto).length = r1 at g1 nn ⊢
  have l1 := lstR g1
  simp only [l1]
  dsimp! only []
  refine wp_fo (fun i ρ s' => ∃ (tot : Int) (x4 x5 x6 : Option W) (cs : List Int), ρ = [some (.lro (ns.map W.int)), some (.int 120), some (.ref s.length), some (.int tot), x4, x5, x6] ∧ s'[s.length]? = some (.lst (wi cs)) ∧ cs.length ≤ 60 * i ∧ Mir.Fr [s.length] s1 s') _ 0 _ _ ⟨_, none, none, none, [], rfl, g0, by simp, Fr.refl⟩ ?_ ?_
  · rintro i w ρ s' hi ⟨tot, x4, x5, x6, cs, rfl, hc, hl, f⟩
    have g1' := f.at_ _ _ (by simpa using nn) g1
    have hi2 : i < 63 := by
      have := (List.getElem?_eq_some_iff.mp hi).1
      simp at this
      omega
    refine ⟨okR g1' ▸ trivial, _, rfl, ?_⟩
    obtain ⟨n, rfl⟩ : ∃ n : Int, w = .int n := by
      rw [List.getElem?_map] at hi
      obtain ⟨y, _, rfl⟩ := Option.map_eq_some_iff.mp hi
      exact ⟨y, rfl⟩
    simp_all! only [ab, d1]
    refine mix_ok fun t2 => ?_
    simp_all! only [e10, geI]
    generalize (if n < 0 then -n else n) = num
    split
    · simp_all! only []
      refine wp_rng1 ?_
      dsimp! only []
      refine ⟨60, rfl, by omega, ?_⟩
      refine wp_fo (fun j ρ s'' => ∃ (num : Int) (x6 : Option W) (cs' : List Int), ρ = [some (.lro (ns.map W.int)), some (.int 120), some (.ref s.length), some (.int t2), some (.int n), some (.int num), x6] ∧ s''[s.length]? = some (.lst (wi cs')) ∧ cs'.length ≤ 60 * i + j ∧ Mir.Fr [s.length] s1 s'') _ 0 _ _ ⟨num, x6, cs, rfl, hc, by omega, f⟩ ?_ ?_
      · rintro j w ρ s2 hj ⟨num, x6, cs', rfl, hc', hl', f'⟩
        obtain ⟨rfl, hj⟩ := rng_at hj
        refine ⟨trivial, _, rfl, ?_⟩
        have il := isLR hc'
        by_cases hn : 0 < num
        · have ap := appI (i := num % 1000) hc' (by omega)
          simp_all! only [gtI, hn, il, d2, ap, d3]
          exact ⟨_, _, _, rfl, getset hc', by simp; omega, f'.trans (Mir.Fr.set (by simp))⟩
        · simp_all! only [gtI, hn]
          exact ⟨_, _, _, rfl, hc', by omega, f'⟩
      · rintro ρ s2 ⟨num, x6, cs', rfl, hc', hl', f'⟩
        refine ⟨trivial, ?_⟩
        simp_all! only []
        exact ⟨_, _, _, _, cs', rfl, hc', by simp at hl'; omega, f'⟩
    · simp_all! only []
      refine wp_rng1 ?_
      dsimp! only []
      refine ⟨6, rfl, by omega, ?_⟩
      refine wp_fo (fun j ρ s'' => ∃ (x6 : Option W) (cs' : List Int), ρ = [some (.lro (ns.map W.int)), some (.int 120), some (.ref s.length), some (.int t2), some (.int n), some (.int num), x6] ∧ s''[s.length]? = some (.lst (wi cs')) ∧ cs'.length ≤ 60 * i + j ∧ Mir.Fr [s.length] s1 s'') _ 0 _ _ ⟨x6, cs, rfl, hc, by omega, f⟩ ?_ ?_
      · rintro j w ρ s2 hj ⟨x6, cs', rfl, hc', hl', f'⟩
        obtain ⟨rfl, hj⟩ := rng_at hj
        refine ⟨trivial, _, rfl, ?_⟩
        have il := isLR hc'
        simp_all! only [il]
        refine mix_ok fun t3 => ?_
        have ap := appI (i := t3 % 1000) hc' (by omega)
        simp_all! only [d2, ap]
        exact ⟨_, _, rfl, getset hc', by simp; omega, f'.trans (Mir.Fr.set (by simp))⟩
      · rintro ρ s2 ⟨x6, cs', rfl, hc', hl', f'⟩
        refine ⟨trivial, ?_⟩
        simp_all! only []
        exact ⟨_, _, _, _, cs', rfl, hc', by simp at hl'; omega, f'⟩
  · rintro ρ s2 ⟨tot, x4, x5, x6, cs, rfl, hc, hl, f⟩
    have g1' := f.at_ _ _ (by simpa using nn) g1
    refine ⟨okR g1' ▸ trivial, ?_⟩
    have hl2 : cs.length ≤ 3780 := by simp at hl; omega
    clear hl
    simp_all! only []
    refine wp_rng1 ?_
    dsimp! only []
    refine ⟨120, rfl, by omega, ?_⟩
    refine wp_fo (fun j ρ s'' => ∃ (tot : Int) (x6 : Option W) (cs' : List Int), ρ = [some (.lro (ns.map W.int)), some (.int 120), some (.ref s.length), some (.int tot), x4, x5, x6] ∧ s''[s.length]? = some (.lst (wi cs')) ∧ cs'.length ≤ 3780 + j ∧ (120 ≤ cs'.length ∨ j ≤ cs'.length) ∧ Mir.Fr [s.length] s1 s'') _ 0 _ _ ⟨tot, x6, cs, rfl, hc, by omega, by omega, f⟩ ?_ ?_
    · rintro j w ρ s3 hj ⟨tot, x6, cs', rfl, hc', hl', hm', f'⟩
      obtain ⟨rfl, hj⟩ := rng_at hj
      refine ⟨trivial, _, rfl, ?_⟩
      have il := isLR hc'
      have ll : gLen [.ref s.length] s3 = some (.int (cs'.length : Int), s3) := by rw [lenL hc', List.length_map]
      by_cases hn : cs'.length < 120
      · have hn' : ((cs'.length : Int) < 120) = True := eq_true (by omega)
        simp_all! only [ll, ltI, hn']
        refine mix_ok fun t3 => ?_
        have ap := appI (i := t3 % 1000) hc' (by omega)
        simp_all! only [il, d2, ap]
        exact ⟨_, _, _, rfl, getset hc', by simp; omega, by simp; omega, f'.trans (Mir.Fr.set (by simp))⟩
      · have hn' : ((cs'.length : Int) < 120) = False := eq_false (by omega)
        simp_all! only [ll, ltI, hn']
        exact ⟨_, _, _, rfl, hc', by omega, by omega, f'⟩
    · rintro ρ s3 ⟨tot, x6, cs', rfl, hc', hl', hm', f'⟩
      refine ⟨trivial, ?_⟩
      simp at hl' hm'
      have sl2 : gSlA (.ref s.length) none (some 120) s3 = some (.ref s3.length, s3 ++ [.lst (wi (cs'.take 120))]) := by
        have k0 : HT.sIx (wi cs').length 0 none = 0 := rfl
        have k1 : HT.sIx (wi cs').length (wi cs').length (some ((120 : Nat) : Int)) = min 120 (wi cs').length := HT.sIx_nat ..
        have k1 : HT.sIx (wi cs').length (wi cs').length (some 120) = min 120 (wi cs').length := k1
        have k2 : min 120 (wi cs').length = 120 := by rw [wi, List.length_map]; omega
        simp only [gSlA, lstR hc', k0, k1, k2, List.drop_zero, Nat.sub_zero]
        congr 4
        rw [wi, wi, List.map_take]
      simp_all! only [sl2]
      refine h _ _ (cs'.take 120) gnew (by rw [List.length_take]; omega) ?_
      exact Fr.new (L' := [s.length]) (Fr.refl) ((((f0.trans f').trans Fr.app)).mono (by simp)) (by simp)
theorem draws_ok {ns : List Int} (h : ∀ d rr s', Drw s' d rr → Mir.Fr [] s s' → s.length ≤ d → R (.ref d) s') : Wp (FLawDraws [.lro (ns.map W.int), .int 120] s) R := by
  unfold FLawDraws
  rw [wp_mkF (by rfl)]
  unfold BLawDraws
  rw [wps_ret, wp_d2]
  dsimp! only []
  refine numbers_ok fun r s' cs hr hl f => ?_
  have hd := f.at_ _ _ (by simp) (gnew (s := s) (o := .dct []) (t := []))
  refine ⟨hd, ?_⟩
  have ne : r ≠ s.length := fun e => by rw [e, hd] at hr; cases hr
  exact h _ r _ ⟨⟨0, getset hd⟩, ⟨cs, by rw [getne ne]; exact hr, hl⟩⟩ (Fr.new (L' := [s.length]) Fr.app ((f.mono (by simp)).trans (Fr.set (by simp))) (by simp)) (Nat.le_refl _)
end
end K44

set_option Elab.async false
set_option linter.all false
set_option maxRecDepth 100000
namespace K44
open PySem PySem.Spec PyProof.Rows L2 Mir
def NOk (z : Str) : Prop := PyData.strOk z = true ∧ z.length ≤ 40
theorem app_ok {a b : Str} (ha : PyData.strOk a = true) (hb : PyData.strOk b = true) : PyData.strOk (a ++ b) = true := by
  show PyData.strOk ⟨a.cps ++ b.cps⟩ = true
  unfold PyData.strOk at ha hb ⊢
  simp only
  rw [Array.all_append, ha, hb]
  rfl
theorem len_app {a b : Str} : (a ++ b).length = a.length + b.length := by
  show (a.cps ++ b.cps).size = _
  rw [Array.size_append]
  rfl
theorem str_ok (s : String) : PyData.strOk (s : Str) = true := by
  rw [Str.ofString_eq_toList]
  unfold PyData.strOk
  simp only [List.all_toArray, List.all_map, List.all_eq_true, Function.comp_apply, decide_eq_true_eq]
  intro c _
  have := c.valid
  rcases this with h | h
  · have : c.toNat < 0xd800 := h; omega
  · have : c.toNat < 0x110000 := h.2; omega
theorem addS {a b : Str} {s : Sto} (h : a.length + b.length ≤ 1000) : gAdd (.str a) (.str b) s = some (.str (a ++ b), s) := by
  have e : a.length + b.length ≤ 100000 := by omega
  show (if a.length + b.length ≤ 100000 then some (W.str (a ++ b), s) else none) = _
  rw [if_pos e]
theorem chr_at {z : Str} {k c : Nat} {s : Sto} (h : z.length ≤ 1000) (e : z.cps.toList[k]? = some c) : gIx (.str z) (.int (k : Int)) s = some (.str ⟨#[c]⟩, s) := by
  have h' : z.length ≤ 100000 := by omega
  show (if z.length ≤ 100000 then _ else none) = _
  rw [if_pos h', atI_nat e]
theorem inLst {a : Str} {l : List Str} {n : Nat} {s : Sto} (h : s[n]? = some (.lst (l.map W.str))) : gIn (.str a) (.ref n) s = some (.bl (decide (a ∈ l)), s) := by
  have f1 : flatW (.str a) = true := rfl
  have f2 : ∀ l : List Str, (l.map W.str).all flatW = true := by
    intro l
    induction l with
    | nil => rfl
    | cons x r ih => simp [flatW, ih]
  have f3 : ∀ l : List Str, inW (.str a) (l.map W.str) = decide (a ∈ l) := by
    intro l
    rw [inW, List.any_map, Bool.eq_iff_iff, List.any_eq_true, decide_eq_true_eq]
    constructor
    · rintro ⟨x, hx, e⟩
      have : x = a := by simpa [eqF] using e
      rw [← this]; exact hx
    · intro hx
      exact ⟨a, hx, by simp [eqF]⟩
  simp only [gIn, insW, seqOf, h, f1, f2, f3, and_self, if_true]
theorem lett_at : ∀ k < 26, ("abcdefghijklmnopqrstuvwxyz" : Str).cps.toList[k]? = some (97 + k) := by decide +kernel
def signsZ : Str := ("abcdefghijklmnopqrstuvwxyz" : Str) ++ ("ABCDEFGHIJKLMNOPQRSTUVWXYZ0123456789_" : Str)
theorem sign_at : ∀ k < 63, (signsZ.cps.toList[k]?).isSome = true ∧ (signsZ.cps.toList[k]?).getD 0 < 128 := by decide +kernel
theorem upp : ∀ k < 26, PyData.strOk (Txt.upper ⟨#[97 + k]⟩) = true ∧ (Txt.upper ⟨#[97 + k]⟩).length ≤ 3 := by decide +kernel
theorem one_ok {c : Nat} (h : c < 128) : PyData.strOk ⟨#[c]⟩ = true ∧ (⟨#[c]⟩ : Str).length = 1 := by
  refine ⟨?_, rfl⟩
  unfold PyData.strOk
  simp
  omega
theorem join_ok : ∀ zs : List Str, (∀ z ∈ zs, PyData.strOk z = true) → PyData.strOk (Str.join "" zs) = true
  | [], _ => by decide +kernel
  | [x], h => h x List.mem_cons_self
  | x :: y :: r, h => app_ok (app_ok (h x List.mem_cons_self) (by decide +kernel)) (join_ok (y :: r) fun z hz => h z (List.mem_cons_of_mem _ hz))
theorem sum_one : ∀ zs : List Str, (∀ z ∈ zs, z.length = 1) → (zs.map (·.length)).sum = zs.length
  | [], _ => rfl
  | x :: r, h => by
    rw [List.map_cons, List.sum_cons, List.length_cons, h x List.mem_cons_self, sum_one r fun z hz => h z (List.mem_cons_of_mem _ hz)]
    omega
theorem strs_map : ∀ zs : List Str, strsOf (zs.map W.str) = some zs
  | [] => rfl
  | z :: zs => by
    show strsOf (W.str z :: zs.map W.str) = _
    rw [strsOf, strs_map zs]
theorem upper_at {k : Nat} {s : Sto} : gUpper (.str ⟨#[97 + k]⟩) [] s = some (.str (Txt.upper ⟨#[97 + k]⟩), s) := by
  have e : (⟨#[97 + k]⟩ : Str).length = 1 := rfl
  have c : (⟨#[97 + k]⟩ : Str).length ≤ 5592405 := by rw [e]; decide
  unfold gUpper gStr
  simp only
  rw [if_pos c]
theorem join_at {n : Nat} {zs : List Str} {s : Sto} (hn : s[n]? = some (.lst (zs.map W.str))) (h1 : ∀ z ∈ zs, z.length = 1) (hl : zs.length ≤ 100) : gJoin (.str "") [.ref n] s = some (.str (Txt.join "" zs), s) := by
  have sq : seqOf (.ref n) s = some (zs.map W.str) := by simp only [seqOf, hn]
  have e0 : ("" : Str).length = 0 := by decide +kernel
  have c : (zs.map (·.length)).sum + zs.length * ("" : Str).length ≤ 16777216 := by rw [sum_one zs h1, e0, Nat.mul_zero, Nat.add_zero]; exact Nat.le_trans hl (by decide)
  unfold gJoin gStr
  simp only [sq, strs_map]
  rw [if_pos c]
def kwZ : Str := "as fn if in of all and div end let mod rec sig val case else open then"
theorem split_at {s : Sto} : gSplit (.str kwZ) [.str " "] s = some (.ref s.length, s ++ [.lst ((Txt.split kwZ " ").map W.str)]) := by
  have c : ((" " : Str).length == 0) = false ∧ kwZ.length + 2 ≤ sizeLine := by decide +kernel
  unfold gSplit gStr
  simp only
  rw [if_pos c]
section
variable {s : Sto} {R : W → Sto → Prop} {d rr : Nat}
set_option maxHeartbeats 0 in
theorem rest_loop {x0 x1 x2 x4 x5 x6 x7 : Option W} (hx0 : x0 = some (.ref d)) : ∀ (l : List W) (s : Sto) (Q : List W → Sto → Prop), Drw s d rr → (∀ (zs : List Str) (s' : Sto), (∀ z ∈ zs, PyData.strOk z = true ∧ z.length = 1) → zs.length = l.length → Drw s' d rr → Mir.Fr [d] s s' → Q (zs.map W.str) s') →
    Wp (lcf (.name 8) bYes (eOp gIx (eVar 3) (eFn FLawTake (aCons (eVar 0) (aCons (eC (.int 63)) aNil)))) none [x0, x1, x2, some (.str signsZ), x4, x5, x6, x7, none] l s) Q
  | [], s, Q, D, h => by
    rw [lcf_goN (c := none) trivial]
    exact h [] s (by simp) rfl D Fr.refl
  | x :: l, s, Q, D, h => by
    subst hx0
    rw [lcf_goC (c := none) trivial]
    dsimp! only []
    refine take_ok D 63 (by omega) (by omega) fun k s1 hk D1 f1 _ => ?_
    obtain ⟨i1, i2⟩ := sign_at k hk
    obtain ⟨c, hc⟩ := Option.isSome_iff_exists.mp i1
    rw [hc] at i2
    have g := chr_at (s := s1) (show signsZ.length ≤ 1000 by decide +kernel) hc
    dsimp! only [g]
    refine rest_loop rfl l s1 _ D1 fun zs s' hz hl D' f' => ?_
    exact h (⟨#[c]⟩ :: zs) s' (fun z hz' => by
      rcases List.mem_cons.mp hz' with rfl | hz'
      · exact one_ok i2
      · exact hz z hz') (by rw [List.length_cons, List.length_cons, hl]) D' (f1.trans f')
set_option maxHeartbeats 0 in
theorem name_tail {s0 s5 : Sto} {x1 x2 x3 x5 : Option W} {z rest : Str} (D5 : Drw s5 d rr) (f5 : Mir.Fr [d] s0 s5) (hz1 : PyData.strOk z = true) (hz2 : z.length ≤ 3) (rest1 : PyData.strOk rest = true) (rest2 : rest.length ≤ 15) (h : ∀ z s', NOk z → z.length ≤ 20 → Drw s' d rr → Mir.Fr [d] s0 s' → R (.str z) s') :
    WpS [(sCons (sSet 7 (eMt Mir.isS gSplit (eC (.str "as fn if in of all and div end let mod rec sig val case else open then")) (aCons (eC (.str " ")) aNil)))
    (sCons (sIf (bTest (eOp gIn (eOp gAdd (eVar 4) (eVar 6)) (eVar 7))) (sRet (eOp gAdd (eVar 4) (eC (.str "_0")))) sNil)
    (sRet (eOp gAdd (eVar 4) (eVar 6)))))] [some (.ref d), x1, x2, x3, some (.str z), x5, some (.str rest), none, none] s5 (fun o s1 => match o with | .rt w => R w s1 | .nx _ => R .non s1 | _ => False) := by
  have il : ∀ z s, Mir.isS (.str z) s = true := fun _ _ => rfl
  have gs : gSplit (.str kwZ) [.str " "] s5 = _ := split_at
  have e0 : ("_0" : Str).length = 2 := by decide +kernel
  have a2 : ∀ s, gAdd (.str z) (.str rest) s = some (.str (z ++ rest), s) := fun s => addS (by omega)
  have a3 : ∀ s, gAdd (.str z) (.str "_0") s = some (.str (z ++ ("_0" : Str)), s) := fun s => addS (by rw [e0]; omega)
  rw [wps_cons, wps_set]
  show Wp (eMt Mir.isS gSplit (eC (.str kwZ)) (aCons (eC (.str " ")) aNil) _ _) _
  generalize kwZ = kw at gs
  dsimp! only [il, gs]
  generalize Txt.split kw " " = wz
  have gi := inLst (a := z ++ rest) (l := wz) (n := s5.length) (s := s5 ++ [.lst (wz.map W.str)]) gnew
  have D6 : Drw (s5 ++ [.lst (wz.map W.str)]) d rr := D5.app
  have f6 : Mir.Fr [d] s0 (s5 ++ [.lst (wz.map W.str)]) := f5.trans Fr.app
  by_cases hi : z ++ rest ∈ wz
  · rw [decide_eq_true hi] at gi
    simp_all! only [a2, gi, a3]
    exact h _ _ ⟨app_ok hz1 (by decide +kernel), by rw [len_app, e0]; omega⟩ (by rw [len_app, e0]; omega) D6 f6
  · rw [decide_eq_false hi] at gi
    simp_all! only [a2, gi]
    exact h _ _ ⟨app_ok hz1 rest1, by rw [len_app]; omega⟩ (by rw [len_app]; omega) D6 f6
theorem isS_at {z : Str} {s : Sto} : Mir.isS (.str z) s = true := rfl
theorem wp_mt {c : W → Sto → Bool} {g : W → List W → Sto → Rz W} {o : FE} {a : FA} {ρ : EnvM} {s : Sto} {R : W → Sto → Prop} {x : W} (ho : o ρ s = some (x, s)) (hc : c x s = true) (h : Wp (a ρ s) fun xs s2 => Wp (g x xs s2) R) : Wp (eMt c g o a ρ s) R := by
  unfold eMt
  rw [ho, bd_some, if_pos hc, wp_bd]
  exact h
theorem wp_args1 {f : FE} {ρ : EnvM} {s : Sto} {R : List W → Sto → Prop} (h : Wp (f ρ s) fun w s1 => R [w] s1) : Wp (aCons f aNil ρ s) R := by
  unfold aCons aNil
  rw [wp_bd]
  simp only [bd_some, wp_some]
  exact h
theorem rest_ok {n : Nat} {z : Str} {x1 x2 : Option W} {R : W → Sto → Prop} (D : Drw s d rr) (hn : n ≤ 15) (h : ∀ rest s', PyData.strOk rest = true → rest.length ≤ 15 → Drw s' d rr → Mir.Fr [d] s s' → R (.str rest) s') :
    Wp (eMt Mir.isS gJoin (eC (.str "")) (aCons (eLc [8] (Mir.iRng1 (eVar 5)) (.name 8) bYes (eOp gIx (eVar 3) (eFn FLawTake (aCons (eVar 0) (aCons (eC (.int 63)) aNil))))) aNil) [some (.ref d), x1, x2, some (.str signsZ), some (.str z), some (.int (n : Int)), none, none, none] s) R := by
  refine wp_mt (x := .str "") rfl isS_at (wp_args1 ?_)
  rw [wp_lc]
  refine wp_rng1 ?_
  have e5 : eVar 5 [some (.ref d), x1, x2, some (.str signsZ), some (.str z), some (.int (n : Int)), none, none, none] s = some (.int (n : Int), s) := rfl
  rw [e5, wp_some]
  have hl : ((List.range n).map fun i : Nat => W.int (i : Int)).length = n := by simp
  refine ⟨n, rfl, Nat.le_trans hn (by decide), ?_⟩
  refine ⟨?_, ?_⟩
  · show ((List.range n).map fun i : Nat => W.int (i : Int)).length ≤ 100000
    rw [hl]
    exact Nat.le_trans hn (by decide)
  show Wp (lcf _ _ _ none [some (.ref d), x1, x2, some (.str signsZ), some (.str z), some (.int (n : Int)), none, none, none] _ s) _
  refine rest_loop rfl _ s _ D fun zs s4 hzs hl4 D4 f4 => ?_
  rw [hl] at hl4
  have h1 : ∀ z ∈ zs, z.length = 1 := fun z hz => (hzs z hz).2
  have gj := join_at (n := s4.length) (zs := zs) (s := s4 ++ [.lst (zs.map W.str)]) gnew h1 (by omega)
  rw [gj, wp_some]
  refine h _ _ ?_ ?_ D4.app (f4.trans Fr.app)
  · unfold Txt.join
    rw [StrLaws.glued_eq_join]
    exact join_ok zs fun z hz => (hzs z hz).1
  · unfold Txt.join
    rw [StrLaws.glued_eq_join]
    have := StrLaws.join_length_le "" zs
    have e0 : ("" : Str).length = 0 := by decide +kernel
    rw [sum_one zs h1, e0] at this
    omega
set_option maxHeartbeats 0 in
theorem name_ok {cap : Bool} (D : Drw s d rr) (h : ∀ z s', NOk z → z.length ≤ 20 → Drw s' d rr → Mir.Fr [d] s s' → R (.str z) s') : Wp (FLawName [.ref d, .bl cap] s) R := by
  unfold FLawName
  rw [wp_mkF (by rfl)]
  unfold BLawName
  have a1 : ∀ s : Sto, gAdd (.str "abcdefghijklmnopqrstuvwxyz") (.str "ABCDEFGHIJKLMNOPQRSTUVWXYZ0123456789_") s = some (.str signsZ, s) := fun s => addS (by decide +kernel)
  rw [wps_cons, wps_set]
  dsimp! only []
  rw [wps_cons, wps_set]
  dsimp! only [a1]
  rw [wps_cons, wps_set]
  dsimp! only []
  refine take_ok D 26 (by omega) (by omega) fun k s1 hk D1 f1 _ => ?_
  have g := chr_at (s := s1) (show ("abcdefghijklmnopqrstuvwxyz" : Str).length ≤ 1000 by decide +kernel) (lett_at k hk)
  dsimp! only [g]
  rw [wps_cons]
  refine wps_mid (M := fun ρ s' => ∃ z : Str, ρ = [some (.ref d), some (.bl cap), some (.str "abcdefghijklmnopqrstuvwxyz"), some (.str signsZ), some (.str z), none, none, none, none] ∧ s' = s1 ∧ PyData.strOk z = true ∧ z.length ≤ 3) ?_ ?_
  · cases cap with
    | false =>
      have o := one_ok (c := 97 + k) (by omega)
      simp_all! only []
      exact ⟨_, rfl, trivial, o.1, by rw [o.2]; omega⟩
    | true =>
      have il : ∀ z s, Mir.isS (.str z) s = true := fun _ _ => rfl
      simp_all! only [il, upper_at]
      exact ⟨_, rfl, trivial, (upp k hk).1, (upp k hk).2⟩
  rintro ρ s' ⟨z, rfl, rfl, hz1, hz2⟩
  rw [wps_cons, wps_set]
  dsimp! only []
  refine take_ok D1 4 (by omega) (by omega) fun k2 s2 hk2 D2 f2 _ => ?_
  rw [wps_cons]
  refine wps_mid (M := fun ρ s' => ∃ n : Nat, ρ = [some (.ref d), some (.bl cap), some (.str "abcdefghijklmnopqrstuvwxyz"), some (.str signsZ), some (.str z), some (.int (n : Int)), none, none, none] ∧ n ≤ 15 ∧ Drw s' d rr ∧ Mir.Fr [d] s s') ?_ ?_
  · rw [wps_if]
    dsimp! only []
    refine take_ok D2 9 (by omega) (by omega) fun k3 s3 hk3 D3 f3 _ => ?_
    by_cases e : (k3 : Int) = 0
    · simp_all! only [e]
      exact ⟨15, rfl, by omega, D3, (f1.trans f2).trans f3⟩
    · simp_all! only [e]
      exact ⟨k2, rfl, by omega, D3, (f1.trans f2).trans f3⟩
  clear f1 f2 D1 D2
  rintro ρ s3 ⟨n, rfl, hn, D3, f3⟩
  rw [wps_cons, wps_set]
  refine rest_ok (n := n) (z := z) D3 hn fun rest s5 rest1 rest2 D5 f5 => ?_
  exact name_tail D5 (f3.trans f5) hz1 hz2 rest1 rest2 h
end
end K44

set_option Elab.async false
set_option linter.all false
set_option maxRecDepth 100000
namespace K44
open PySem PySem.Spec PyProof.Rows L2 Mir
theorem cps_app {a b : Str} : (a ++ b).cps.toList = a.cps.toList ++ b.cps.toList := by
  show (a.cps ++ b.cps).toList = _
  simp
theorem pre_inj {a z z' : Str} (h : a ++ z = a ++ z') : z = z' := by
  have e := congrArg (fun s : Str => s.cps.toList) h
  simp only [cps_app] at e
  have := List.append_cancel_left e
  cases z; cases z'
  simp only [Array.toList_inj] at this
  rw [this]
theorem pigeon {α : Type} [DecidableEq α] : ∀ {l m : List α}, l.Nodup → (∀ x ∈ l, x ∈ m) → l.length ≤ m.length
  | [], m, _, _ => Nat.zero_le _
  | x :: l, m, nd, h => by
    rw [List.nodup_cons] at nd
    have hx := h x List.mem_cons_self
    have ih := pigeon (l := l) (m := m.erase x) nd.2 fun y hy => (List.mem_erase_of_ne (fun e => nd.1 (by rw [← e]; exact hy))).mpr (h y (List.mem_cons_of_mem _ hy))
    rw [List.length_erase_of_mem hx] at ih
    have := List.length_pos_of_mem hx
    rw [List.length_cons]
    omega
def nS (j : Nat) : Str := ((toString (j : Int) : String) : Str)
theorem nS_inj : ∀ i < 5, ∀ j < 5, nS i = nS j → i = j := by decide +kernel
theorem nS_len : ∀ i < 10, (nS i).length ≤ 2 := by decide +kernel
theorem log_ok : ∀ i < 10, (((i : Nat) : Int).natAbs.log2 < 1920) := by decide +kernel
theorem str_at {j : Nat} (h : j < 10) {s : Sto} : gStr1 [.int (j : Int)] s = some (.str (nS j), s) := by
  show (if ((j : Int)).natAbs.log2 < 1920 then _ else none) = _
  rw [if_pos (log_ok j h)]
  rfl
theorem cut_at {z : Str} {s : Sto} (h : NOk z) : ∃ b, gSlA (.str z) none (some 12) s = some (.str b, s) ∧ PyData.strOk b = true ∧ b.length ≤ 12 := by
  have hl : z.length ≤ sizeLine := Nat.le_trans h.2 (by decide)
  refine ⟨cutS z none (some 12), ?_, ?_, ?_⟩
  · show (if z.length ≤ sizeLine then _ else none) = _
    rw [if_pos hl]
  · have h1 := h.1
    unfold PyData.strOk at h1 ⊢
    unfold cutS
    simp only [List.all_toArray, List.all_eq_true]
    intro c hc
    have := List.mem_of_mem_take hc
    have := List.mem_of_mem_drop this
    have h1 := (Array.all_eq_true_iff_forall_mem.mp h1) c (by simpa using this)
    exact h1
  · have k0 : HT.sIx z.length 0 none = 0 := rfl
    have k1 : HT.sIx z.length z.length (some ((12 : Nat) : Int)) = min 12 z.length := HT.sIx_nat ..
    have k1 : HT.sIx z.length z.length (some 12) = min 12 z.length := k1
    unfold cutS
    rw [k0, k1]
    show (List.toArray _).size ≤ 12
    rw [List.size_toArray, List.length_take]
    omega
section
variable {s : Sto} {R : W → Sto → Prop} {d rr : Nat}
noncomputable def poI : FS := (sIf (bTest (eOp gIn (eVar 5) (eVar 3))) (sSet 5 (eOp gAdd (eOp gAdd (eVar 6) (eC (.str "_"))) (eFn gStr1 (aCons (eVar 7) aNil)))) sNil)
theorem und : ("_" : Str).length = 1 := by decide +kernel
set_option maxHeartbeats 0 in
theorem pool_inner {many r0 : Nat} (hm : many ≤ 4) {zs : List Str} {b : Str} (hb : PyData.strOk b = true ∧ b.length ≤ 12) (hl : zs.length < many) {x0 x1 x2 x4 : Option W} {s1 : Sto} (hr : s1[r0]? = some (.lst (zs.map W.str))) {z : Str} (hz : NOk z) {Post : Out → Sto → Prop}
    (h : ∀ z' x7, NOk z' → z' ∉ zs → Post (.nx [x0, x1, x2, some (.ref r0), x4, some (.str z'), some (.str b), x7]) s1) {x7 : Option W} :
    Wp (fo (.name 7) poI none ((List.range (many + 1)).map fun j : Nat => W.int (j : Int)) [x0, x1, x2, some (.ref r0), x4, some (.str z), some (.str b), x7] s1) Post := by
  have q := wp_fo (t := .name 7) (f := poI) (c := none) (fs := []) (Q := Post) (fun j ρ s' => ∃ (z : Str) (x7 : Option W), ρ = [x0, x1, x2, some (.ref r0), x4, some (.str z), some (.str b), x7] ∧ NOk z ∧ s' = s1 ∧ (z ∈ zs → ∀ i < j, b ++ ("_" : Str) ++ nS i ∈ zs)) ((List.range (many + 1)).map fun j : Nat => W.int (j : Int)) 0 [x0, x1, x2, some (.ref r0), x4, some (.str z), some (.str b), x7] s1 ⟨z, x7, rfl, hz, rfl, fun _ i hi => absurd hi (by omega)⟩ ?_ ?_
  · refine q.mono fun o s2 h => ?_
    cases o with
    | nx ρ1 =>
      have h : WpS [] ρ1 s2 Post := h
      rw [wps_nil] at h
      exact h
    | _ => exact h
  · rintro j w ρ s' hj ⟨z, x7, rfl, hz, rfl, hi⟩
    obtain ⟨rfl, hj⟩ := rng_at hj
    rw [Nat.zero_add] at hi ⊢
    refine ⟨trivial, _, rfl, ?_⟩
    have gi := inLst (a := z) (l := zs) (n := r0) hr
    have l10 : j < 10 := by omega
    have a1 : ∀ s, gAdd (.str b) (.str "_") s = some (.str (b ++ ("_" : Str)), s) := fun s => addS (by rw [und]; omega)
    have nl := nS_len j l10
    have a2 : ∀ s, gAdd (.str (b ++ ("_" : Str))) (.str (nS j)) s = some (.str (b ++ ("_" : Str) ++ nS j), s) := fun s => addS (by rw [len_app, und]; omega)
    have s1 := fun s => str_at (s := s) l10
    unfold poI
    by_cases hin : z ∈ zs
    · rw [decide_eq_true hin] at gi
      simp_all! only [gi, a1, a2, s1]
      refine ⟨_, _, rfl, ⟨app_ok (app_ok hb.1 (by decide +kernel)) (str_ok _), by rw [len_app, len_app, und]; omega⟩, trivial, fun hz2 i hi2 => ?_⟩
      by_cases e : i = j
      · rw [e]; exact hz2
      · exact hi hin i (by omega)
    · rw [decide_eq_false hin] at gi
      simp_all! only [gi]
      exact ⟨z, _, rfl, hz, trivial, fun hz2 => absurd hz2 hin⟩
  · rintro ρ s' ⟨z, x7, rfl, hz, rfl, hi⟩
    refine ⟨trivial, ?_⟩
    rw [wps_nil]
    refine h z x7 hz fun hin => ?_
    have hi := hi hin
    simp at hi
    have nd : ((List.range (many + 1)).map fun i => b ++ ("_" : Str) ++ nS i).Nodup := by
      rw [List.nodup_iff_pairwise_ne, List.pairwise_map]
      refine List.Pairwise.imp_of_mem ?_ List.nodup_range
      intro a c ha hc hne e
      rw [List.mem_range] at ha hc
      exact hne (nS_inj a (by omega) c (by omega) (pre_inj e))
    have := pigeon nd (m := zs) fun x hx => by
      obtain ⟨i, hi2, rfl⟩ := List.mem_map.mp hx
      rw [List.mem_range] at hi2
      exact hi i (by omega)
    simp at this
    omega
set_option maxHeartbeats 0 in
theorem pool_ok {cap : Bool} {many : Nat} (hm : many ≤ 4) (D : Drw s d rr) (h : ∀ (r : Nat) (zs : List Str) (s' : Sto), s'[r]? = some (.lst (zs.map W.str)) → zs.length = many → zs.Nodup → (∀ z ∈ zs, NOk z) → Drw s' d rr → Mir.Fr [d] s s' → s.length ≤ r → R (.ref r) s') : Wp (FLawPool [.ref d, .bl cap, .int (many : Int)] s) R := by
  unfold FLawPool
  rw [wp_mkF (by rfl)]
  unfold BLawPool
  have lt := D.lt
  rw [wps_cons, wps_set]
  dsimp! only []
  rw [wps_cons, wps_for]
  refine wp_rng1 ?_
  dsimp! only []
  refine ⟨many, rfl, by omega, ?_⟩
  refine wp_fo (fun i ρ s' => ∃ (x4 x5 x6 x7 : Option W) (zs : List Str), ρ = [some (.ref d), some (.bl cap), some (.int (many : Int)), some (.ref s.length), x4, x5, x6, x7] ∧ s'[s.length]? = some (.lst (zs.map W.str)) ∧ zs.length = i ∧ zs.Nodup ∧ (∀ z ∈ zs, NOk z) ∧ Drw s' d rr ∧ Mir.Fr [s.length, d] s s') _ 0 _ _ ⟨none, none, none, none, [], rfl, gnew, rfl, by simp, by simp, D.app, Fr.app⟩ ?_ ?_
  · rintro i w ρ s1 hi ⟨x4, x5, x6, x7, zs, rfl, hz, hl, nd, ho, D1, f1⟩
    obtain ⟨rfl, hi⟩ := rng_at hi
    rw [Nat.zero_add] at hl
    refine ⟨trivial, _, rfl, ?_⟩
    rw [wps_cons, wps_set]
    dsimp! only []
    refine name_ok D1 fun z s2 hz2 hz20 D2 f2 => ?_
    have hz' := f2.at_ _ _ (by simp; omega) hz
    obtain ⟨b, hb0, hb⟩ := cut_at (s := s2) hz2
    rw [wps_cons, wps_set]
    dsimp! only [hb0]
    rw [wps_cons, wps_for]
    refine wp_rng1 ?_
    dsimp! only []
    have e1 : (many : Int) + 1 = ((many + 1 : Nat) : Int) := by omega
    refine ⟨many + 1, by rw [e1], by omega, ?_⟩
    refine pool_inner (many := many) hm hb (by omega) hz' hz2 fun z' x7 hz3 hn => ?_
    simp only []
    have ap := appL (w := .str z') hz' (by simp; omega)
    have il := isLR hz'
    simp_all! only [il, ap]
    refine ⟨_, _, _, _, zs ++ [z'], rfl, by rw [getset hz']; simp, by simp; omega, ?_, ?_, D2.fr (L := [s.length]) (Mir.Fr.set (by simp)) (by simp; omega) (by simp; omega), (f1.trans (f2.mono (by simp))).trans (Mir.Fr.set (by simp))⟩
    · rw [List.nodup_append]
      exact ⟨nd, by simp, fun a ha c hc e => hn (by rw [List.mem_singleton.mp hc] at e; rw [← e]; exact ha)⟩
    · intro y hy
      rcases List.mem_append.mp hy with hy | hy
      · exact ho y hy
      · rw [List.mem_singleton.mp hy]; exact hz3
  · rintro ρ s1 ⟨x4, x5, x6, x7, zs, rfl, hz, hl, nd, ho, D1, f1⟩
    refine ⟨trivial, ?_⟩
    simp_all! only []
    refine h _ zs _ hz (by simpa using hl) nd ho D1 ⟨f1.len, fun i o hi e => ?_⟩ (Nat.le_refl _)
    have := gltn e
    exact f1.at_ i o (by simp at hi ⊢; omega) e
end
end K44

set_option Elab.async false
set_option linter.all false
set_option maxRecDepth 100000
namespace K44
open PySem PySem.Spec PyProof.Rows L2 Mir
structure En where
  kind : Nat
  low : Str
  high : Str
  st : Nat
  k : Nat
deriving DecidableEq
def tg : Nat → Str
  | 0 => "val"
  | 1 => "shape"
  | 2 => "con"
  | 3 => "exn"
  | 4 => "name"
  | 5 => "module"
  | 6 => "functor"
  | _ => "signature"
def En.nm (e : En) : Str := if e.kind = 0 ∨ e.kind = 1 ∨ e.kind = 4 then e.low else e.high
def En.sp (e : En) : Str := if e.kind = 3 then "con" else tg e.kind
def shW (n : Nat) : W := .tup [.str "c", .int (n : Int), .tup []]
def En.w (e : En) : W := match e.kind with
  | 0 => .tup [.str "val", .str e.low, .tup [.int 0, shW e.st]]
  | 1 => .tup [.str "shape", .str e.low, .int 0, shW e.st]
  | 2 => .tup [.str "con", .str e.high, .int 0, .non, shW e.st, .int (e.k : Int), .tup [.tup [.str e.high, .bl false]]]
  | 3 => .tup [.str "exn", .str e.high, .non]
  | 4 => .tup [.str "name", .str e.low, shW e.st]
  | 5 => .tup [.str "module", .str e.high, .tup [.tup [.str "val", .str e.low, .tup [.int 0, shW e.st]]]]
  | 6 => .tup [.str "functor", .str e.high, .tup [.tup [], .tup []], .tup [], .tup []]
  | _ => .tup [.str "signature", .str e.high, .tup [.tup [], .tup []]]
def En.key (e : En) : List Key := [.inr e.sp, .inr e.nm]
def En.ord (e : En) : Nat := match e.kind with
  | 0 => 0
  | 1 => 1
  | 2 => 2
  | 3 => 2
  | 5 => 3
  | _ => 4
def inO (e : En) : Bool := decide (e.kind = 0 ∨ e.kind = 1 ∨ e.kind = 2 ∨ e.kind = 3 ∨ e.kind = 5 ∨ e.kind = 6)
def putE (acc : List En) (e : En) : List En := if acc.any (fun x => decide (x.key = e.key)) then acc.map (fun x => if x.key = e.key then e else x) else acc ++ [e]
def lastE (l : List En) : List En := l.foldl putE []
theorem putE_mem {acc : List En} {e x : En} (h : x ∈ putE acc e) : x ∈ acc ∨ x = e := by
  unfold putE at h
  split at h
  · obtain ⟨y, hy, rfl⟩ := List.mem_map.mp h
    split
    · exact .inr rfl
    · exact .inl hy
  · rcases List.mem_append.mp h with h | h
    · exact .inl h
    · exact .inr (List.mem_singleton.mp h)
theorem fold_mem : ∀ (l acc : List En) (x : En), x ∈ l.foldl putE acc → x ∈ acc ∨ x ∈ l
  | [], acc, x, h => .inl h
  | e :: l, acc, x, h => by
    rw [List.foldl_cons] at h
    rcases fold_mem l _ x h with h | h
    · rcases putE_mem h with h | h
      · exact .inl h
      · exact .inr (h ▸ List.mem_cons_self ..)
    · exact .inr (List.mem_cons_of_mem _ h)
theorem lastE_mem {l : List En} {x : En} (h : x ∈ lastE l) : x ∈ l := (fold_mem l [] x h).elim (fun h => by cases h) id
def KN (l : List En) : Prop := l.Pairwise fun a b => a.key ≠ b.key
theorem putE_keys {acc : List En} {e : En} (h : acc.any (fun x => decide (x.key = e.key)) = true) : (putE acc e).map En.key = acc.map En.key := by
  unfold putE
  rw [if_pos h, List.map_map]
  refine List.map_congr_left fun x _ => ?_
  show (if x.key = e.key then e else x).key = x.key
  split
  · rename_i q; exact q.symm
  · rfl
theorem kn_map {l : List En} : KN l ↔ (l.map En.key).Pairwise (· ≠ ·) := by
  unfold KN
  rw [List.pairwise_map]
theorem putE_kn {acc : List En} {e : En} (h : KN acc) : KN (putE acc e) := by
  by_cases q : acc.any (fun x => decide (x.key = e.key)) = true
  · rw [kn_map, putE_keys q, ← kn_map]
    exact h
  · unfold putE
    rw [if_neg q]
    unfold KN
    rw [List.pairwise_append]
    refine ⟨h, by simp, fun a ha b hb e2 => q ?_⟩
    rw [List.mem_singleton.mp hb] at e2
    exact List.any_eq_true.mpr ⟨a, ha, decide_eq_true e2⟩
theorem fold_kn : ∀ (l acc : List En), KN acc → KN (l.foldl putE acc)
  | [], acc, h => h
  | e :: l, acc, h => by rw [List.foldl_cons]; exact fold_kn l _ (putE_kn h)
theorem lastE_kn (l : List En) : KN (lastE l) := fold_kn l [] .nil
theorem putE_new {acc : List En} {e : En} (h : ∀ x ∈ acc, x.key ≠ e.key) : putE acc e = acc ++ [e] := by
  unfold putE
  rw [if_neg]
  intro q
  obtain ⟨x, hx, e2⟩ := List.any_eq_true.mp q
  exact h x hx (of_decide_eq_true e2)
theorem fold_id : ∀ (l acc : List En), KN (acc ++ l) → l.foldl putE acc = acc ++ l
  | [], acc, _ => by simp
  | e :: l, acc, h => by
    rw [List.foldl_cons, putE_new fun x hx => ?_, fold_id l (acc ++ [e]) (by simpa using h)]
    · simp
    · unfold KN at h
      rw [List.pairwise_append] at h
      exact h.2.2 x hx e (List.mem_cons_self ..)
theorem lastE_id {l : List En} (h : KN l) : lastE l = l := by
  exact (fold_id l [] (by simpa using h)).trans (List.nil_append l)
theorem putE_filter {p : En → Bool} (hp : ∀ a b : En, a.key = b.key → p a = p b) (acc : List En) (e : En) : (putE acc e).filter p = if p e = true then putE (acc.filter p) e else acc.filter p := by
  by_cases q : acc.any (fun x => decide (x.key = e.key)) = true
  · have e1 : putE acc e = acc.map (fun x => if x.key = e.key then e else x) := by unfold putE; rw [if_pos q]
    have pm : ∀ x : En, p (if x.key = e.key then e else x) = p x := fun x => by
      split
      · rename_i h; exact (hp x e h).symm
      · rfl
    have e2 : (acc.map (fun x => if x.key = e.key then e else x)).filter p = (acc.filter p).map (fun x => if x.key = e.key then e else x) := by
      rw [List.filter_map]
      congr 1
      refine List.filter_congr fun x _ => ?_
      exact pm x
    rw [e1, e2]
    by_cases pe : p e = true
    · rw [if_pos pe]
      obtain ⟨x, hx, hk⟩ := List.any_eq_true.mp q
      have hk' := of_decide_eq_true hk
      have q2 : (acc.filter p).any (fun x => decide (x.key = e.key)) = true := List.any_eq_true.mpr ⟨x, List.mem_filter.mpr ⟨hx, by rw [hp x e hk']; exact pe⟩, hk⟩
      unfold putE
      rw [if_pos q2]
    · rw [if_neg pe]
      have : (acc.filter p).map (fun x => if x.key = e.key then e else x) = (acc.filter p).map id := List.map_congr_left fun x hx => by
        rw [if_neg]
        · rfl
        · intro h
          exact pe (by rw [← hp x e h]; exact (List.mem_filter.mp hx).2)
      rw [this, List.map_id]
  · have e1 : putE acc e = acc ++ [e] := by unfold putE; rw [if_neg q]
    rw [e1, List.filter_append]
    by_cases pe : p e = true
    · rw [if_pos pe, putE_new]
      · simp [pe]
      · intro x hx h
        exact q (List.any_eq_true.mpr ⟨x, (List.mem_filter.mp hx).1, decide_eq_true h⟩)
    · rw [if_neg pe]
      simp [pe]
theorem fold_filter {p : En → Bool} (hp : ∀ a b : En, a.key = b.key → p a = p b) : ∀ (l acc : List En), (l.foldl putE acc).filter p = (l.filter p).foldl putE (acc.filter p)
  | [], acc => rfl
  | e :: l, acc => by
    rw [List.foldl_cons, fold_filter hp l, putE_filter hp]
    by_cases pe : p e = true
    · rw [if_pos pe, List.filter_cons, if_pos pe, List.foldl_cons]
    · rw [if_neg pe, List.filter_cons, if_neg pe]
theorem lastE_filter {p : En → Bool} (hp : ∀ a b : En, a.key = b.key → p a = p b) (l : List En) : lastE (l.filter p) = (lastE l).filter p := (fold_filter hp l []).symm
end K44

set_option Elab.async false
set_option linter.all false
set_option maxRecDepth 100000
namespace K44
open PySem PySem.Spec PyProof.Rows L2 Mir
def kdv (e : En) : PyData := .tuple [.int (e.ord : Int), .bool (decide (e.kind = 3)), .int (if e.kind = 2 then (e.st : Int) else -1), .int (if e.kind = 2 then (e.k : Int) else -1), .str e.nm]
def ltE (a b : En) : Prop := a.ord < b.ord ∨ a.ord = b.ord ∧ ((a.kind ≠ 3 ∧ b.kind = 3) ∨ (a.kind = b.kind ∧ ((a.kind = 2 ∧ (a.st < b.st ∨ a.st = b.st ∧ a.k < b.k)) ∨ (a.kind ≠ 2 ∧ a.nm.cps.toList < b.nm.cps.toList))))
abbrev rl := PySem.W.rowLt
theorem rl_cons {x y : PyData} (h : PySem.W.alike x y = true) (xs ys : List PyData) : rl (x :: xs) (y :: ys) = if PyData.eqv x y = true then rl xs ys else PySem.W.dataLt x y := PySem.W.dataLt_cons h xs ys
theorem kd_lt {a b : En} (h : ltE a b) : PySem.W.dataLt (kdv a) (kdv b) = true := by
  show rl _ _ = true
  rw [rl_cons (by simp [PySem.W.alike])]
  rcases h with h | ⟨h, h2⟩
  · have ne : PyData.eqv (.int (a.ord : Int)) (.int (b.ord : Int)) = false := by simp [PyData.eqv]; omega
    rw [ne, if_neg Bool.false_ne_true, PySem.W.dataLt_int]
    exact decide_eq_true (by omega)
  · have e : PyData.eqv (.int (a.ord : Int)) (.int (b.ord : Int)) = true := by simp [PyData.eqv, h]
    rw [e, if_pos rfl, rl_cons (by simp [PySem.W.alike])]
    rcases h2 with ⟨h2, h3⟩ | ⟨h2, h3⟩
    · have d1 : decide (a.kind = 3) = false := decide_eq_false h2
      have d2 : decide (b.kind = 3) = true := decide_eq_true h3
      rw [d1, d2]
      simp [PyData.eqv, PySem.W.dataLt_bool]
      decide
    · rw [h2]
      have e : PyData.eqv (.bool (decide (b.kind = 3))) (.bool (decide (b.kind = 3))) = true := by simp [PyData.eqv]
      rw [e, if_pos rfl]
      rcases h3 with ⟨h3, h4⟩ | ⟨h3, h4⟩
      · have hb : b.kind = 2 := h2 ▸ h3
        simp only [if_pos hb]
        rw [rl_cons (by simp [PySem.W.alike])]
        rcases h4 with h4 | ⟨h4, h5⟩
        · have ne : PyData.eqv (.int (a.st : Int)) (.int (b.st : Int)) = false := by simp [PyData.eqv]; omega
          rw [ne, if_neg Bool.false_ne_true, PySem.W.dataLt_int]
          exact decide_eq_true (by omega)
        · have e : PyData.eqv (.int (a.st : Int)) (.int (b.st : Int)) = true := by simp [PyData.eqv, h4]
          have ne : PyData.eqv (.int (a.k : Int)) (.int (b.k : Int)) = false := by simp [PyData.eqv]; omega
          rw [e, if_pos rfl, rl_cons (by simp [PySem.W.alike]), ne, if_neg Bool.false_ne_true, PySem.W.dataLt_int]
          exact decide_eq_true (by omega)
      · have hb : ¬ b.kind = 2 := h2 ▸ h3
        simp only [if_neg hb]
        rw [rl_cons (by simp [PySem.W.alike])]
        have e : PyData.eqv (.int (-1)) (.int (-1)) = true := by simp [PyData.eqv]
        rw [e, if_pos rfl, rl_cons (by simp [PySem.W.alike]), e, if_pos rfl, rl_cons (by simp [PySem.W.alike])]
        have ne : PyData.eqv (.str a.nm) (.str b.nm) = false := by
          simp [PyData.eqv]
          intro h
          rw [h] at h4
          exact absurd h4 (List.lt_irrefl _)
        rw [ne, if_neg Bool.false_ne_true, PySem.W.dataLt_str]
        exact decide_eq_true h4
theorem sort_is {α : Type} (O : KeyOrd) (f : α → O.α) {due V : List α} (hp : due.Perm V) (hs : due.Pairwise (fun a b => PySem.W.sortLe O false f b a = false)) : V.mergeSort (PySem.W.sortLe O false f) = due := by
  have T := PySem.W.sortLe_total O false f
  refine (PySem.W.sort_unique T ?_ fun c => ?_).symm
  · refine hs.imp fun {a b} h => ?_
    rcases T.total a b with q | q
    · exact q
    · rw [h] at q; cases q
  · have pf := hp.filter (PySem.W.sameRank (PySem.W.sortLe O false f) c)
    have hs2 : (due.filter (PySem.W.sameRank (PySem.W.sortLe O false f) c)).Pairwise (fun a b => PySem.W.sortLe O false f b a = false) := hs.filter _
    have short : (due.filter (PySem.W.sameRank (PySem.W.sortLe O false f) c)).length ≤ 1 := by
      cases h : due.filter (PySem.W.sameRank (PySem.W.sortLe O false f) c) with
      | nil => simp
      | cons x r =>
        cases r with
        | nil => simp
        | cons y r =>
          exfalso
          rw [h] at hs2
          have h1 := (List.pairwise_cons.mp hs2).1 y (List.mem_cons_self ..)
          have mx : x ∈ due.filter (PySem.W.sameRank (PySem.W.sortLe O false f) c) := by rw [h]; exact List.mem_cons_self ..
          have my : y ∈ due.filter (PySem.W.sameRank (PySem.W.sortLe O false f) c) := by rw [h]; exact List.mem_cons_of_mem _ (List.mem_cons_self ..)
          have qx := (List.mem_filter.mp mx).2
          have qy := (List.mem_filter.mp my).2
          unfold PySem.W.sameRank at qx qy
          rw [Bool.and_eq_true] at qx qy
          have := T.trans y c x qy.2 qx.1
          rw [h1] at this
          cases this
    match h : due.filter (PySem.W.sameRank (PySem.W.sortLe O false f) c), short with
    | [], _ => rw [h] at pf; exact (List.nil_perm.mp pf).symm
    | [x], _ => rw [h] at pf; exact (List.singleton_perm.mp pf).symm ▸ rfl
theorem level_is {due V : List En} (hp : due.Perm V) (hs : due.Pairwise ltE) : V.mergeSort (PySem.W.dataLe false kdv) = due := by
  refine sort_is _ _ hp (hs.imp fun {a b} h => ?_)
  have := kd_lt h
  show (!PySem.W.dataLt (kdv a) (kdv b)) = false
  rw [this]
  rfl
end K44

set_option Elab.async false
set_option linter.all false
set_option maxRecDepth 100000
namespace K44
open PySem PySem.Spec PyProof.Rows L2 Mir
def seg (L : List En) (t : Nat) : List En := L.filter fun e => decide (e.kind = t)
def nmLt (a b : En) : Prop := a.nm.cps.toList < b.nm.cps.toList
def plLt (a b : En) : Prop := a.st < b.st ∨ a.st = b.st ∧ a.k < b.k
structure DueOk (L s0 s1 s2 s3 s5 s6 : List En) : Prop where
  p0 : s0.Perm (seg L 0)
  p1 : s1.Perm (seg L 1)
  p2 : s2.Perm (seg L 2)
  p3 : s3.Perm (seg L 3)
  p5 : s5.Perm (seg L 5)
  p6 : s6.Perm (seg L 6)
  n0 : s0.Pairwise nmLt
  n1 : s1.Pairwise nmLt
  n2 : s2.Pairwise plLt
  n3 : s3.Pairwise nmLt
  n5 : s5.Pairwise nmLt
  n6 : s6.Pairwise nmLt
theorem seg_kind {L s : List En} {t : Nat} (h : s.Perm (seg L t)) : ∀ e ∈ s, e.kind = t := fun e he => by
  have := (List.mem_filter.mp (h.mem_iff.mp he)).2
  simpa using this
theorem lt_cross {a b : En} {t u : Nat} (ha : a.kind = t) (hb : b.kind = u) (h : (t = 0 ∧ u ∈ [1, 2, 3, 5, 6]) ∨ (t = 1 ∧ u ∈ [2, 3, 5, 6]) ∨ (t = 2 ∧ u ∈ [3, 5, 6]) ∨ (t = 3 ∧ u ∈ [5, 6]) ∨ (t = 5 ∧ u = 6)) : ltE a b := by
  unfold ltE En.ord
  simp only [List.mem_cons, List.not_mem_nil, or_false] at h
  rcases h with ⟨rfl, h⟩ | ⟨rfl, h⟩ | ⟨rfl, h⟩ | ⟨rfl, h⟩ | ⟨rfl, h⟩
  · rcases h with rfl | rfl | rfl | rfl | rfl <;> simp [ha, hb]
  · rcases h with rfl | rfl | rfl | rfl <;> simp [ha, hb]
  · rcases h with rfl | rfl | rfl <;> simp [ha, hb]
  · rcases h with rfl | rfl <;> simp [ha, hb]
  · subst h; simp [ha, hb]
theorem lt_name {s : List En} {t : Nat} (ht : t ≠ 2) (hk : ∀ e ∈ s, e.kind = t) (h : s.Pairwise nmLt) : s.Pairwise ltE := by
  refine (List.Pairwise.and_mem.mp h).imp fun {a b} ⟨ha, hb, hlt⟩ => ?_
  have ka := hk a ha
  have kb := hk b hb
  exact .inr ⟨by unfold En.ord; rw [ka, kb], .inr ⟨by rw [ka, kb], .inr ⟨by rw [ka]; exact ht, hlt⟩⟩⟩
theorem lt_place {s : List En} (hk : ∀ e ∈ s, e.kind = 2) (h : s.Pairwise plLt) : s.Pairwise ltE := by
  refine (List.Pairwise.and_mem.mp h).imp fun {a b} ⟨ha, hb, hlt⟩ => ?_
  have ka := hk a ha
  have kb := hk b hb
  exact .inr ⟨by unfold En.ord; rw [ka, kb], .inr ⟨by rw [ka, kb], .inl ⟨ka, hlt⟩⟩⟩
theorem due_perm {L s0 s1 s2 s3 s5 s6 : List En} (D : DueOk L s0 s1 s2 s3 s5 s6) : (s0 ++ s1 ++ s2 ++ s3 ++ s5 ++ s6).Perm (L.filter inO) := by
  refine (((((D.p0.append D.p1).append D.p2).append D.p3).append D.p5).append D.p6).trans ?_
  rw [List.perm_iff_count]
  intro e
  have ce : ∀ t, (seg L t).count e = if e.kind = t then L.count e else 0 := fun t => by
    unfold seg
    by_cases h : e.kind = t
    · rw [if_pos h, List.count_filter (by simpa using h)]
    · rw [if_neg h]
      refine List.count_eq_zero.mpr fun hm => h ?_
      simpa using (List.mem_filter.mp hm).2
  have co : (L.filter inO).count e = if inO e = true then L.count e else 0 := by
    by_cases h : inO e = true
    · rw [if_pos h, List.count_filter h]
    · rw [if_neg h]
      exact List.count_eq_zero.mpr fun hm => h (List.mem_filter.mp hm).2
  simp only [List.count_append, ce, co]
  unfold inO
  by_cases k0 : e.kind = 0
  · simp [k0]
  by_cases k1 : e.kind = 1
  · simp [k1]
  by_cases k2 : e.kind = 2
  · simp [k2]
  by_cases k3 : e.kind = 3
  · simp [k3]
  by_cases k5 : e.kind = 5
  · simp [k5]
  by_cases k6 : e.kind = 6
  · simp [k6]
  simp [k0, k1, k2, k3, k5, k6]
theorem due_lt {L s0 s1 s2 s3 s5 s6 : List En} (D : DueOk L s0 s1 s2 s3 s5 s6) : (s0 ++ s1 ++ s2 ++ s3 ++ s5 ++ s6).Pairwise ltE := by
  have k0 := seg_kind D.p0
  have k1 := seg_kind D.p1
  have k2 := seg_kind D.p2
  have k3 := seg_kind D.p3
  have k5 := seg_kind D.p5
  have k6 := seg_kind D.p6
  simp only [List.append_assoc, List.pairwise_append, List.mem_append]
  refine ⟨lt_name (by decide) k0 D.n0, ⟨lt_name (by decide) k1 D.n1, ⟨lt_place k2 D.n2, ⟨lt_name (by decide) k3 D.n3, ⟨lt_name (by decide) k5 D.n5, lt_name (by decide) k6 D.n6, ?_⟩, ?_⟩, ?_⟩, ?_⟩, ?_⟩
  · exact fun a ha b hb => lt_cross (k5 a ha) (k6 b hb) (by simp)
  · rintro a ha b (hb | hb)
    · exact lt_cross (k3 a ha) (k5 b hb) (by simp)
    · exact lt_cross (k3 a ha) (k6 b hb) (by simp)
  · rintro a ha b (hb | hb | hb)
    · exact lt_cross (k2 a ha) (k3 b hb) (by simp)
    · exact lt_cross (k2 a ha) (k5 b hb) (by simp)
    · exact lt_cross (k2 a ha) (k6 b hb) (by simp)
  · rintro a ha b (hb | hb | hb | hb)
    · exact lt_cross (k1 a ha) (k2 b hb) (by simp)
    · exact lt_cross (k1 a ha) (k3 b hb) (by simp)
    · exact lt_cross (k1 a ha) (k5 b hb) (by simp)
    · exact lt_cross (k1 a ha) (k6 b hb) (by simp)
  · rintro a ha b (hb | hb | hb | hb | hb)
    · exact lt_cross (k0 a ha) (k1 b hb) (by simp)
    · exact lt_cross (k0 a ha) (k2 b hb) (by simp)
    · exact lt_cross (k0 a ha) (k3 b hb) (by simp)
    · exact lt_cross (k0 a ha) (k5 b hb) (by simp)
    · exact lt_cross (k0 a ha) (k6 b hb) (by simp)
end K44

set_option Elab.async false
set_option linter.all false
set_option maxRecDepth 100000
namespace K44
open PySem PySem.Spec PyProof.Rows L2 Mir
theorem ts0 : tl T_SPACES ("val" : Str) = some none := rfl
theorem ts1 : tl T_SPACES ("shape" : Str) = some none := rfl
theorem ts2 : tl T_SPACES ("con" : Str) = some none := rfl
theorem ts3 : tl T_SPACES ("exn" : Str) = some (some (.str ("con" : Str))) := rfl
theorem ts4 : tl T_SPACES ("name" : Str) = some none := rfl
theorem ts5 : tl T_SPACES ("module" : Str) = some none := rfl
theorem ts6 : tl T_SPACES ("functor" : Str) = some none := rfl
theorem ts7 : tl T_SPACES ("signature" : Str) = some none := rfl
theorem space_ok {e : En} {s : Sto} (hk : e.kind < 8) : FSpaceOf [e.w] s = some (.str e.sp, s) := by
  have key : Wp (FSpaceOf [e.w] s) (fun w s1 => w = .str e.sp ∧ s1 = s) := by
    obtain ⟨kind, low, high, st, k⟩ := e
    unfold FSpaceOf
    rw [wp_mkF (by rfl)]
    unfold BSpaceOf
    match kind, hk with
    | 0, _ =>
      unfold En.w En.sp tg
      simp! only [eCget2, ts0]
      try simp
    | 1, _ =>
      unfold En.w En.sp tg
      simp! only [eCget2, ts1]
      try simp
    | 2, _ =>
      unfold En.w En.sp tg
      simp! only [eCget2, ts2]
      try simp
    | 3, _ =>
      unfold En.w En.sp tg
      simp! only [eCget2, ts3]
      try simp
    | 4, _ =>
      unfold En.w En.sp tg
      simp! only [eCget2, ts4]
      try simp
    | 5, _ =>
      unfold En.w En.sp tg
      simp! only [eCget2, ts5]
      try simp
    | 6, _ =>
      unfold En.w En.sp tg
      simp! only [eCget2, ts6]
      try simp
    | 7, _ =>
      unfold En.w En.sp tg
      simp! only [eCget2, ts7]
      try simp
  obtain ⟨w, s1, e1, rfl, rfl⟩ := key
  exact e1
abbrev OR : List Str := ["val", "shape", "con", "module", "functor"]
theorem io0 : (("val" : Str) ∈ (["val", "shape", "con", "module", "functor"] : List Str)) = True := eq_true (by decide +kernel)
theorem io1 : (("shape" : Str) ∈ (["val", "shape", "con", "module", "functor"] : List Str)) = True := eq_true (by decide +kernel)
theorem io2 : (("con" : Str) ∈ (["val", "shape", "con", "module", "functor"] : List Str)) = True := eq_true (by decide +kernel)
theorem io5 : (("module" : Str) ∈ (["val", "shape", "con", "module", "functor"] : List Str)) = True := eq_true (by decide +kernel)
theorem io6 : (("functor" : Str) ∈ (["val", "shape", "con", "module", "functor"] : List Str)) = True := eq_true (by decide +kernel)
theorem iq0 : (["val", "shape", "con", "module", "functor"] : List Str).idxOf ("val" : Str) = 0 := by decide +kernel
theorem iq1 : (["val", "shape", "con", "module", "functor"] : List Str).idxOf ("shape" : Str) = 1 := by decide +kernel
theorem iq2 : (["val", "shape", "con", "module", "functor"] : List Str).idxOf ("con" : Str) = 2 := by decide +kernel
theorem iq5 : (["val", "shape", "con", "module", "functor"] : List Str).idxOf ("module" : Str) = 3 := by decide +kernel
theorem iq6 : (["val", "shape", "con", "module", "functor"] : List Str).idxOf ("functor" : Str) = 4 := by decide +kernel
def kdW (e : En) : W := .tup [.int (e.ord : Int), .bl (decide (e.kind = 3)), .int (if e.kind = 2 then (e.st : Int) else -1), .int (if e.kind = 2 then (e.k : Int) else -1), .str e.nm]
theorem kd_py (e : En) : pyW (kdW e) = some (kdv e) := by simp [pyW, pyWs, kdW, kdv]
theorem kd_dep (e : En) : (kdv e).depth ≤ 60 := by simp [kdv, PyData.depth, PyData.depthAll]
theorem gx4 {a b c d e : W} {r : List W} {s : Sto} : gIx (.tup (a :: b :: c :: d :: e :: r)) (.int 4) s = some (e, s) := by
  have h : atI (a :: b :: c :: d :: e :: r) ((4 : Nat) : Int) = some e := atI_nat rfl
  have h : atI (a :: b :: c :: d :: e :: r) 4 = some e := h
  simp only [gIx, seqOf, h]
theorem gx5 {a b c d e g : W} {r : List W} {s : Sto} : gIx (.tup (a :: b :: c :: d :: e :: g :: r)) (.int 5) s = some (g, s) := by
  have h : atI (a :: b :: c :: d :: e :: g :: r) ((5 : Nat) : Int) = some g := atI_nat rfl
  have h : atI (a :: b :: c :: d :: e :: g :: r) 5 = some g := h
  simp only [gIx, seqOf, h]
theorem place_ok {e : En} {s : Sto} (hk : e.kind < 8) (hi : inO e = true) : FLevelPlace [e.w] s = some (kdW e, s) := by
  have sp := fun s => space_ok (e := e) (s := s) hk
  have key : Wp (FLevelPlace [e.w] s) (fun w s1 => w = kdW e ∧ s1 = s) := by
    obtain ⟨kind, low, high, st, k⟩ := e
    unfold FLevelPlace
    rw [wp_mkF (by rfl)]
    unfold BLevelPlace
    match kind, hk, hi with
    | 0, _, _ =>
      unfold En.w En.sp tg at sp
      unfold En.w kdW En.nm En.ord shW
      simp [shW] at sp
      simp! only [sp, eIxT, io0, iq0]
      try simp
    | 1, _, _ =>
      unfold En.w En.sp tg at sp
      unfold En.w kdW En.nm En.ord shW
      simp [shW] at sp
      simp! only [sp, eIxT, io1, iq1]
      try simp
    | 2, _, _ =>
      unfold En.w En.sp tg at sp
      unfold En.w kdW En.nm En.ord shW
      simp [shW] at sp
      simp! only [sp, eIxT, io2, iq2, gx4, gx5]
      try simp
    | 3, _, _ =>
      unfold En.w En.sp tg at sp
      unfold En.w kdW En.nm En.ord shW
      simp [shW] at sp
      simp! only [sp, eIxT, io2, iq2]
      try simp
    | 4, _, hi => simp [inO] at hi
    | 5, _, _ =>
      unfold En.w En.sp tg at sp
      unfold En.w kdW En.nm En.ord shW
      simp [shW] at sp
      simp! only [sp, eIxT, io5, iq5]
      try simp
    | 6, _, _ =>
      unfold En.w En.sp tg at sp
      unfold En.w kdW En.nm En.ord shW
      simp [shW] at sp
      simp! only [sp, eIxT, io6, iq6]
      try simp
    | 7, _, hi => simp [inO] at hi
  obtain ⟨w, s1, e1, rfl, rfl⟩ := key
  exact e1
end K44

set_option Elab.async false
set_option linter.all false
set_option maxRecDepth 100000
namespace K44
open PySem PySem.Spec PyProof.Rows L2 Mir
def tabOf (l : List En) : List (List Key × W) := l.map fun e => (e.key, e.w)
theorem tab_put {acc : List En} {e : En} : putT (tabOf acc) e.key e.w = tabOf (putE acc e) := by
  unfold putT putE tabOf
  rw [List.any_map]
  by_cases h : acc.any (fun x => decide (x.key = e.key)) = true
  · have h2 : acc.any ((fun kv : List Key × W => decide (kv.1 = e.key)) ∘ fun e => (e.key, e.w)) = true := h
    rw [if_pos h, if_pos h2, List.map_map, List.map_map]
    refine List.map_congr_left fun x _ => ?_
    show (if x.key = e.key then (x.key, e.w) else (x.key, x.w)) = _
    simp only [Function.comp]
    split
    · rename_i q; rw [q]
    · rfl
  · have h2 : ¬ acc.any ((fun kv : List Key × W => decide (kv.1 = e.key)) ∘ fun e => (e.key, e.w)) = true := h
    rw [if_neg h, if_neg h2, List.map_append]
    rfl
theorem tab_len {l : List En} : (tabOf l).length = l.length := List.length_map ..
theorem tab_vals {l : List En} : (tabOf l).map (·.2) = l.map En.w := by unfold tabOf; rw [List.map_map]; rfl
theorem putE_len {acc : List En} {e : En} : (putE acc e).length ≤ acc.length + 1 := by
  unfold putE
  split
  · rw [List.length_map]; omega
  · rw [List.length_append]; simp
theorem foldE_len : ∀ (l acc : List En), (l.foldl putE acc).length ≤ acc.length + l.length
  | [], acc => by simp
  | e :: l, acc => by
    rw [List.foldl_cons]
    have := foldE_len l (putE acc e)
    have := putE_len (acc := acc) (e := e)
    rw [List.length_cons]
    omega
theorem lastE_len (l : List En) : (lastE l).length ≤ l.length := by
  have := foldE_len l []
  rw [List.length_nil, Nat.zero_add] at this
  exact this
theorem lastE_snoc (l : List En) (e : En) : lastE (l ++ [e]) = putE (lastE l) e := by
  unfold lastE
  rw [List.foldl_append]
  rfl
theorem dtR {n : Nat} {s : Sto} {kvs : List (List Key × W)} (h : s[n]? = some (.dtt kvs)) : dtOf (.ref n) s = some (n, kvs) := by simp only [dtOf, h]
theorem wps_tput {o : FE} {a : FA} {v : FE} {fs : List FS} {ρ : EnvM} {s : Sto} {Q : Out → Sto → Prop} : WpS (sTput o a v :: fs) ρ s Q = Wp (v ρ s) (fun w s1 => Wp (o ρ s1) (fun x s2 => Wp (a ρ s2) (fun ks s3 => match dtOf x s3, keysW ks with | some (n, kvs), some k => (ks.length ≤ 100000 ∧ kvs.length ≤ 100000) ∧ WpS fs ρ (s3.set n (.dtt (putT kvs k w))) Q | _, _ => False))) := by
  rw [wps_cut]; unfold sTput; simp only [wp_bd]
  congr; funext w s1; congr; funext x s2; congr; funext y s3
  cases dtOf x s3 with
  | none => simp only [wp_none]
  | some p =>
    cases keysW y with
    | none => simp only [wp_none]
    | some k =>
      simp only [wp_ite, wp_some, wp_none]
      split
      · rename_i h; exact propext ⟨fun q => ⟨h, q⟩, fun q => q.2⟩
      · rename_i h; exact propext ⟨fun q => q.elim, fun q => h q.1⟩
theorem ks2 {a b : Str} : keysW [.str a, .str b] = some [.inr a, .inr b] := rfl
theorem en_ix0 {e : En} {s : Sto} : gIx e.w (.int 0) s = some (.str (tg e.kind), s) := by
  obtain ⟨kind, low, high, st, k⟩ := e
  match kind with
  | 0 => exact ix0
  | 1 => exact ix0
  | 2 => exact ix0
  | 3 => exact ix0
  | 4 => exact ix0
  | 5 => exact ix0
  | 6 => exact ix0
  | n + 7 => exact ix0
theorem en_ix1 {e : En} {s : Sto} : gIx e.w (.int 1) s = some (.str e.nm, s) := by
  obtain ⟨kind, low, high, st, k⟩ := e
  match kind with
  | 0 => exact ix1
  | 1 => exact ix1
  | 2 => exact ix1
  | 3 => exact ix1
  | 4 => exact ix1
  | 5 => exact ix1
  | 6 => exact ix1
  | n + 7 => exact ix1
theorem inO_eq : ∀ k < 8, decide ((if k = 3 then ("con" : Str) else tg k) ∈ (["val", "shape", "con", "module", "functor"] : List Str)) = inO ⟨k, "", "", 0, 0⟩ := by decide +kernel
theorem inT {a : Str} {l : List Str} {s : Sto} : gIn (.str a) (.tup (l.map W.str)) s = some (.bl (decide (a ∈ l)), s) := by
  have f1 : flatW (.str a) = true := rfl
  have f2 : ∀ l : List Str, (l.map W.str).all flatW = true := by
    intro l
    induction l with
    | nil => rfl
    | cons x r ih => simp [flatW, ih]
  have f3 : ∀ l : List Str, inW (.str a) (l.map W.str) = decide (a ∈ l) := by
    intro l
    rw [inW, List.any_map, Bool.eq_iff_iff, List.any_eq_true, decide_eq_true_eq]
    constructor
    · rintro ⟨x, hx, e⟩
      have : x = a := by simpa [eqF] using e
      rw [← this]; exact hx
    · intro hx
      exact ⟨a, hx, by simp [eqF]⟩
  simp only [gIn, insW, seqOf, f1, f2, f3, and_self, if_true]
theorem so_in {e : En} {s : Sto} (hk : e.kind < 8) : gIn (.str e.sp) (.tup [.str "val", .str "shape", .str "con", .str "module", .str "functor"]) s = some (.bl (inO e), s) := by
  have := inT (a := e.sp) (l := ["val", "shape", "con", "module", "functor"]) (s := s)
  have q := inO_eq e.kind hk
  have r : inO e = inO ⟨e.kind, "", "", 0, 0⟩ := rfl
  rw [r, ← q]
  exact this
theorem ino_key {a b : En} (h : a.key = b.key) : inO a = inO b := by
  have e : ∀ x : En, inO x = decide (x.sp ∈ (["val", "shape", "con", "module", "functor"] : List Str)) := fun x => by
    by_cases hk : x.kind < 8
    · have q := inO_eq x.kind hk
      have r : inO x = inO ⟨x.kind, "", "", 0, 0⟩ := rfl
      rw [r, ← q]
      rfl
    · obtain ⟨kind, low, high, st, k⟩ := x
      obtain ⟨n, rfl⟩ : ∃ n, kind = n + 8 := ⟨kind - 8, by have : ¬ kind < 8 := hk; omega⟩
      · have e1 : inO ⟨n + 8, low, high, st, k⟩ = false := by simp [inO]
        have e2 : (⟨n + 8, low, high, st, k⟩ : En).sp = "signature" := rfl
        rw [e1, e2]
        decide +kernel
  have : a.sp = b.sp := by
    unfold En.key at h
    injection h with h1 _
    injection h1
  rw [e a, e b, this]
theorem keyd_ok {e : En} {s : Sto} (hk : e.kind < 8) (hi : inO e = true) : keyD FLevelPlace s e.w = kdv e := keyD_at (place_ok hk hi) (kd_py e)
theorem keys_ok {l : List En} {s : Sto} (hl : ∀ e ∈ l, e.kind < 8 ∧ inO e = true) : KeysOk FLevelPlace s (l.map En.w) := by
  have em : (l.map En.w).map (keyD FLevelPlace s) = l.map kdv := by
    rw [List.map_map]
    exact List.map_congr_left fun e he => keyd_ok (hl e he).1 (hl e he).2
  refine ⟨fun w hw => ?_, ?_, ?_⟩
  · obtain ⟨e, he, rfl⟩ := List.mem_map.mp hw
    exact ⟨kdW e, kdv e, place_ok (hl e he).1 (hl e he).2, kd_py e, kd_dep e⟩
  · rw [em]
    exact PySem.W.AllAlike.of fun a b => by simp [kdv, PySem.W.alike, PySem.W.alikeAll]
  · rw [em]
    exact PySem.W.Sortable.tuples fun a => ⟨_, _, rfl⟩
theorem srt_tidy {due V : List En} {s : Sto} (hV : ∀ e ∈ V, e.kind < 8 ∧ inO e = true) (hp : due.Perm V) (hs : due.Pairwise ltE) : (V.map En.w).mergeSort (PySem.W.dataLe false (keyD FLevelPlace s)) = due.map En.w := by
  refine sort_is _ _ (hp.map _) ?_
  rw [List.pairwise_map]
  refine (List.Pairwise.and_mem.mp hs).imp fun {a b} ⟨ha, hb, hlt⟩ => ?_
  have a2 := hV a (hp.mem_iff.mp ha)
  have b2 := hV b (hp.mem_iff.mp hb)
  have := kd_lt hlt
  rw [← keyd_ok (s := s) a2.1 a2.2, ← keyd_ok (s := s) b2.1 b2.2] at this
  show (!PySem.W.dataLt (keyD FLevelPlace s a.w) (keyD FLevelPlace s b.w)) = false
  rw [this]
  rfl
theorem tidy_ok {l due : List En} {s : Sto} {R : W → Sto → Prop} (hl : l.length ≤ 1000) (hk : ∀ e ∈ l, e.kind < 8) (hp : due.Perm ((lastE l).filter inO)) (hs : due.Pairwise ltE) (h : ∀ s', Mir.Fr [] s s' → R (.tup (due.map En.w)) s') : Wp (FTidy [.tup (l.map En.w)] s) R := by
  have hV : ∀ e ∈ (lastE l).filter inO, e.kind < 8 ∧ inO e = true := fun e he => ⟨hk e (lastE_mem (List.mem_filter.mp he).1), (List.mem_filter.mp he).2⟩
  have ll : ((lastE l).filter inO).length ≤ 100000 := Nat.le_trans (List.length_filter_le ..) (Nat.le_trans (lastE_len l) (by omega))
  unfold FTidy
  rw [wp_mkF (by rfl)]
  unfold BTidy
  simp_all! only [eTnew]
  refine wp_fo (fun k ρ s1 => (∃ y, ρ = [some (.tup (l.map En.w)), some (.ref s.length), y]) ∧ s1 = s ++ [.dtt (tabOf (lastE ((l.take k).filter inO)))]) _ 0 _ _ ⟨⟨_, rfl⟩, rfl⟩ (fun i x ρ s1 hx hI => ?_) fun ρ s1 hI => ?_
  · obtain ⟨⟨y, rfl⟩, rfl⟩ := hI
    rw [Nat.zero_add]
    rw [List.getElem?_map] at hx
    obtain ⟨e, he, rfl⟩ := Option.map_eq_some_iff.mp hx
    have hke := hk e (List.mem_of_getElem? he)
    have tk : l.take (i + 1) = l.take i ++ [e] := by rw [List.take_add_one, he]; rfl
    refine ⟨trivial, _, rfl, ?_⟩
    have sp := fun s => space_ok (e := e) (s := s) hke
    simp_all! only [sp, so_in hke]
    by_cases hi : inO e = true
    · simp only [hi]
      refine Eq.mpr wps_tput ?_
      have dt := dtR (gnew (s := s) (o := .dtt (tabOf (lastE ((l.take i).filter inO)))) (t := []))
      simp_all! only [sp, en_ix1, dt, ks2]
      have le : (tabOf (lastE ((l.take i).filter inO))).length ≤ 100000 := by
        rw [tab_len]
        refine Nat.le_trans (lastE_len _) (Nat.le_trans (List.length_filter_le ..) ?_)
        rw [List.length_take]
        omega
      refine ⟨⟨by decide, le⟩, ?_⟩
      refine Eq.mpr wps_nil ?_
      refine ⟨⟨_, rfl⟩, ?_⟩
      rw [tk, List.filter_append]
      have : [e].filter inO = [e] := by simp [hi]
      rw [this, lastE_snoc, ← tab_put]
      simp [List.set_append, En.key]
    · simp only [hi]
      simp_all! only []
      refine ⟨⟨_, rfl⟩, ?_⟩
      rw [tk, List.filter_append]
      have : [e].filter inO = [] := by simp [hi]
      rw [this, List.append_nil]
  · obtain ⟨⟨y, rfl⟩, rfl⟩ := hI
    have tk : l.take (0 + (l.map En.w).length) = l := by rw [List.length_map, Nat.zero_add, List.take_length]
    rw [tk, lastE_filter (fun a b q => ?_)]
    · refine ⟨trivial, ?_⟩
      have dt := dtR (gnew (s := s) (o := .dtt (tabOf ((lastE l).filter inO))) (t := []))
      have ks := keys_ok (s := s ++ [.dtt (tabOf ((lastE l).filter inO))] ++ [.lst (((lastE l).filter inO).map En.w)]) hV
      have dv : gDvT (.ref s.length) (s ++ [.dtt (tabOf ((lastE l).filter inO))]) = some (.ref (s ++ [.dtt (tabOf ((lastE l).filter inO))] : Sto).length, s ++ [.dtt (tabOf ((lastE l).filter inO))] ++ [.lst (((lastE l).filter inO).map En.w)]) := by
        simp only [gDvT, dt]
        rw [tab_len, if_pos ll, tab_vals]
      generalize hS : (s ++ [O.dtt (tabOf ((lastE l).filter inO))] : Sto) = S at dv ks ⊢
      have lo : lstOf (.ref S.length) (S ++ [.lst (((lastE l).filter inO).map En.w)]) = some (((lastE l).filter inO).map En.w) := by
        simp only [lstOf, gnew]
      have sk : gSortK FLevelPlace (.ref S.length) (S ++ [.lst (((lastE l).filter inO).map En.w)]) = some (.ref (S ++ [.lst (((lastE l).filter inO).map En.w)] : Sto).length, S ++ [.lst (((lastE l).filter inO).map En.w)] ++ [.lst (due.map En.w)]) := by
        unfold gSortK
        simp only [lo]
        rw [if_pos ⟨by rw [List.length_map]; exact ll, ks⟩, srt_tidy hV hp hs]
      have tl := tupL (gnew (s := S ++ [.lst (((lastE l).filter inO).map En.w)]) (o := .lst (due.map En.w)) (t := []))
      simp_all! only [eSortK, eDvT, dv, sk, tl]
      subst hS
      exact h _ (Fr.app.trans (Fr.app.trans Fr.app))
    · exact ino_key q
end K44

set_option Elab.async false
set_option linter.all false
set_option maxRecDepth 100000
namespace K44
open PySem PySem.Spec PyProof.Rows L2 Mir
theorem tab_look : ∀ {L : List En} {e : En}, KN L → e ∈ L → lookT (tabOf L) e.key = some e.w
  | [], _, _, h => by cases h
  | x :: L, e, kn, h => by
    unfold KN at kn
    rw [List.pairwise_cons] at kn
    unfold lookT tabOf
    rw [List.map_cons, List.find?_cons]
    by_cases q : x.key = e.key
    · have : x = e := by
        rcases List.mem_cons.mp h with h | h
        · exact h.symm
        · exact absurd q (kn.1 e h)
      subst this
      simp
    · have d : decide (((x.key, x.w) : List Key × W).1 = e.key) = false := decide_eq_false q
      rw [d]
      have he : e ∈ L := by
        rcases List.mem_cons.mp h with h | h
        · exact absurd (by rw [h]) q
        · exact h
      have := tab_look kn.2 he
      unfold lookT tabOf at this
      exact this
theorem lk_back {s t : Sto} {d : Nat} {o x : O} (h : s[d]? = some o) : (s.set d x ++ t).set d o = s ++ t := by
  have hd := gltn h
  rw [List.set_append_left _ _ (by rw [List.length_set]; exact hd), List.set_set]
  congr 1
  obtain ⟨h1, h2⟩ := List.getElem?_eq_some_iff.mp h
  rw [← h2, List.set_getElem_self]
theorem tg_eq : ∀ a < 8, ∀ b < 8, decide (tg a = tg b) = decide (a = b) := by decide +kernel
def kyWE (e : En) : W := .tup [.str e.sp, .str e.nm]
noncomputable abbrev uN : FT := (bTest (eOp gEq (eOp gIx (eTgetW (eVar 0) (eVar 4)) (eC (.int 0))) (eVar 1)))
noncomputable abbrev fN : FE := (eOp gIx (eVar 4) (eC (.int 1)))
theorem eVar_at {i : Nat} {ρ : EnvM} {s : Sto} {w : W} (h : ρ[i]? = some (some w)) : eVar i ρ s = some (w, s) := by simp only [eVar, h]
theorem tgW_at {L : List En} {e : En} {d : Nat} {s : Sto} {f g : FE} {ρ : EnvM} (kn : KN L) (he : e ∈ L) (hd : s[d]? = some (.frt (tabOf L))) (h0 : f ρ s = some (.ref d, s)) (h1 : g ρ s = some (kyWE e, s)) : eTgetW f g ρ s = some (e.w, s) := by
  have fr : frtOf (.ref d) s = some (tabOf L) := by simp only [frtOf, hd]
  have ky : keysW [.str e.sp, .str e.nm] = some e.key := rfl
  unfold eTgetW
  rw [h0]
  simp only [bd_some, h1, fr, kyWE, ky, tab_look kn he]
theorem lcf_nm {L : List En} {t d : Nat} {s : Sto} {ρ : EnvM} (kn : KN L) (k8 : ∀ e ∈ L, e.kind < 8) (ht : t < 8) (hd : s[d]? = some (.frt (tabOf L))) (h0 : ρ[0]? = some (some (.ref d))) (h1 : ρ[1]? = some (some (.str (tg t)))) (h4 : 4 < ρ.length) :
    ∀ l : List En, (∀ e ∈ l, e ∈ L) → lcf (.name 4) uN fN none ρ (l.map kyWE) s = some ((seg l t).map (fun e => .str e.nm), s)
  | [], _ => by rw [List.map_nil, lcf, if_pos (show okc none s from trivial)]; rfl
  | e :: l, hl => by
    have he := hl e (List.mem_cons_self ..)
    have e0 : (ρ.set 4 (some (kyWE e)))[0]? = some (some (.ref d)) := by rw [List.getElem?_set_ne (by decide)]; exact h0
    have e1 : (ρ.set 4 (some (kyWE e)))[1]? = some (some (.str (tg t))) := by rw [List.getElem?_set_ne (by decide)]; exact h1
    have e4 : (ρ.set 4 (some (kyWE e)))[4]? = some (some (kyWE e)) := by rw [List.getElem?_set_self h4]
    have tw := tgW_at (f := eVar 0) (g := eVar 4) kn he hd (eVar_at e0) (eVar_at e4)
    have ih := lcf_nm kn k8 ht hd h0 h1 h4 l fun x hx => hl x (List.mem_cons_of_mem _ hx)
    have u1 : uN (ρ.set 4 (some (kyWE e))) s = some (decide (e.kind = t), s) := by
      unfold uN bTest eOp
      rw [tw]
      simp only [bd_some, eC, en_ix0, eVar_at e1, eqS, tg_eq _ (k8 e he) _ ht]
    have f1 : fN (ρ.set 4 (some (kyWE e))) s = some (.str e.nm, s) := by
      unfold fN eOp
      rw [eVar_at e4]
      simp only [bd_some, eC]
      exact ix1
    rw [List.map_cons, lcf, if_pos (show okc none s from trivial)]
    simp only [tgM_name, u1, bd_some]
    by_cases q : e.kind = t
    · rw [decide_eq_true q]
      simp only [if_true, f1, bd_some, ih]
      unfold seg
      rw [List.filter_cons, if_pos (decide_eq_true q)]
      try rfl
    · rw [decide_eq_false q]
      simp only [Bool.false_eq_true, if_false, ih]
      unfold seg
      rw [List.filter_cons, if_neg (by simpa using q)]
theorem nm_comp {L : List En} {t d : Nat} {s : Sto} {x2 x3 x4 x5 : Option W} (kn : KN L) (k8 : ∀ e ∈ L, e.kind < 8) (ht : t < 8) (hL : L.length ≤ 1000) (hd : s[d]? = some (.dtt (tabOf L))) :
    lkET 0 (eLc [4] (fiKeysT 0) (.name 4) uN fN) [some (.ref d), some (.str (tg t)), x2, x3, x4, x5] s = some (.ref s.length, s ++ [.lst ((seg L t).map (fun e => .str e.nm))]) := by
  have dt := dtR hd
  have hf : (s.set d (.frt (tabOf L)))[d]? = some (.frt (tabOf L)) := getset hd
  have fr : frtOf (.ref d) (s.set d (.frt (tabOf L))) = some (tabOf L) := by simp only [frtOf, hf]
  have km : (tabOf L).map (fun kv => W.tup (kv.1.map kW)) = L.map kyWE := by unfold tabOf; rw [List.map_map]; rfl
  have lc := lcf_nm (ρ := wipeM [some (.ref d), some (.str (tg t)), x2, x3, x4, x5] [4]) kn k8 ht hf rfl rfl (by simp [wipeM]) L fun e he => he
  have g3 := gapp (t := [O.lst ((seg L t).map (fun e => .str e.nm))]) hf
  unfold lkET eLc fiKeysT
  simp only [List.getElem?_cons_succ, List.getElem?_cons_zero, dt, fr, bd_some, km]
  rw [if_pos (by rw [List.length_map]; omega), lc]
  simp only [bd_some, g3, List.length_set]
  rw [lk_back hd]
def sNm (l : List En) : List En := l.mergeSort fun a b => leS a.nm b.nm
theorem sNm_perm (l : List En) : (sNm l).Perm l := List.mergeSort_perm ..
theorem sNm_pw (l : List En) : (sNm l).Pairwise (fun a b => leS a.nm b.nm = true) := List.pairwise_mergeSort (le := fun a b : En => leS a.nm b.nm) (fun a b c => leS_trans) (fun a b => leS_total) l
theorem sNm_srt (l : List En) : srt (l.map En.nm) = (sNm l).map En.nm := pw_one ((srt_perm _).trans ((sNm_perm l).map _).symm) (srt_pw _) (by rw [List.pairwise_map]; exact sNm_pw l)
theorem seg_nm {L : List En} {t : Nat} (kn : KN L) : (seg L t).Pairwise fun a b => a.nm ≠ b.nm := by
  have : (seg L t).Pairwise fun a b => a.key ≠ b.key := List.Pairwise.filter _ kn
  refine (List.Pairwise.and_mem.mp this).imp fun {a b} ⟨ha, hb, h⟩ e => h ?_
  have ka := seg_kind (List.Perm.refl (seg L t)) a ha
  have kb := seg_kind (List.Perm.refl (seg L t)) b hb
  unfold En.key En.sp
  rw [ka, kb, e]
theorem sNm_lt {L : List En} {t : Nat} (kn : KN L) : (sNm (seg L t)).Pairwise nmLt := by
  have ne : (sNm (seg L t)).Pairwise fun a b => a.nm ≠ b.nm := (sNm_perm _).symm.pairwise (seg_nm kn) fun h e => h e.symm
  refine ((sNm_pw _).and ne).imp fun {a b} ⟨h1, h2⟩ => ?_
  unfold nmLt
  rw [leS_iff] at h1
  refine Classical.byContradiction fun h3 => h2 ?_
  refine leS_anti (leS_iff.mpr h1) (leS_iff.mpr h3)
theorem named_tail {L S : List En} {t d r2 : Nat} {s2 : Sto} {sp : Str} {x1 : Option W} {R : W → Sto → Prop} (kn : KN L) (hsp : sp = (⟨t, "", "", 0, 0⟩ : En).sp) (hS : S.Perm (seg L t)) (hL : S.length < 64) (hd : s2[d]? = some (.dtt (tabOf L))) (h2 : s2[r2]? = some (.lst ((S.map En.nm).map W.str)))
    (h : R (.ref s2.length) (s2 ++ [.lst (S.map En.w)])) : WpS [sRet (eLc [5] (iSeq (eVar 2)) (.name 5) bYes (eTget (eVar 0) (aCons (eVar 3) (aCons (eVar 5) aNil))))] [some (.ref d), x1, some (.ref r2), some (.str sp), none, none] s2 (fun o s1 => match o with | .rt w => R w s1 | .nx _ => R .non s1 | _ => False) := by
  have lo := lstR h2
  have oc : okc (some (r2, (S.map En.nm).map W.str)) s2 := h2
  have dt := dtR hd
  simp_all! only [lo]
  refine ⟨by simp; omega, ?_⟩
  refine wp_lcf (fun k acc s => acc = (S.take k).map En.w ∧ s = s2) _ 0 [] _ ⟨by simp, rfl⟩ (fun i x acc s hx hI => ?_) fun acc s hI => ?_
  · obtain ⟨rfl, rfl⟩ := hI
    rw [Nat.zero_add, List.map_map, List.getElem?_map] at *
    obtain ⟨e, he, rfl⟩ := Option.map_eq_some_iff.mp hx
    have mS := List.mem_of_getElem? he
    have mL : e ∈ L := (List.mem_filter.mp (hS.mem_iff.mp mS)).1
    have ke := seg_kind hS e mS
    have tk : S.take (i + 1) = S.take i ++ [e] := by rw [List.take_add_one, he]; rfl
    have ky : [.inr sp, .inr e.nm] = e.key := by
      rw [hsp]
      unfold En.key En.sp
      rw [ke]
    have lk := tab_look kn mL
    refine ⟨oc, _, rfl, ?_⟩
    have k3 : keysW [W.str sp, (W.str ∘ En.nm) e] = some e.key := by rw [← ky]; rfl
    simp_all! only [eTget, dt, k3, lk]
    exact ⟨by rw [tk, List.map_append]; rfl, trivial⟩
  · obtain ⟨rfl, rfl⟩ := hI
    refine ⟨oc, fun ws e => ?_⟩
    rw [List.nil_append] at e
    rw [← e]
    have : S.take (0 + ((S.map En.nm).map W.str).length) = S := by rw [List.length_map, List.length_map, Nat.zero_add, List.take_length]
    rw [this]
    exact h
theorem named_ok {L : List En} {t d : Nat} {s : Sto} {R : W → Sto → Prop} (kn : KN L) (k8 : ∀ e ∈ L, e.kind < 8) (ht : t < 8) (hL : L.length < 64) (hd : s[d]? = some (.dtt (tabOf L)))
    (h : ∀ (S : List En) r s', S.Perm (seg L t) → S.Pairwise nmLt → s'[r]? = some (.lst (S.map En.w)) → Mir.Fr [] s s' → s.length ≤ r → R (.ref r) s') : Wp (FLawNamed [.ref d, .str (tg t)] s) R := by
  have sl : (seg L t).length < 64 := Nat.lt_of_le_of_lt (List.length_filter_le ..) hL
  have nc := nm_comp (x2 := none) (x3 := none) (x4 := none) (x5 := none) kn k8 ht (by omega) hd
  have so : gSortedS [.ref s.length] (s ++ [.lst ((seg L t).map (fun e => .str e.nm))]) = some (.ref (s ++ [.lst ((seg L t).map (fun e => .str e.nm))] : Sto).length, s ++ [.lst ((seg L t).map (fun e => .str e.nm))] ++ [.lst (((sNm (seg L t)).map En.nm).map W.str)]) := by
    have := sort_any (ss := (seg L t).map En.nm) (lstR (gnew (s := s) (o := .lst ((seg L t).map (fun e => .str e.nm))) (t := []))) (by rw [show (seg L t).map (fun e => W.str e.nm) = ((seg L t).map En.nm).map W.str by rw [List.map_map]; rfl]; exact strs_map _) (by rw [List.length_map]; exact sl)
    rw [sNm_srt] at this
    exact this
  unfold FLawNamed
  rw [wp_mkF (by rfl)]
  unfold BLawNamed
  simp_all! only [nc, so]
  have hd2 := gapp (t := [O.lst (((sNm (seg L t)).map En.nm).map W.str)]) (gapp (t := [O.lst ((seg L t).map (fun e => W.str e.nm))]) hd)
  have ls : (sNm (seg L t)).length < 64 := by rw [(sNm_perm _).length_eq]; exact sl
  have go : ∀ sp, sp = (⟨t, "", "", 0, 0⟩ : En).sp → WpS [sRet (eLc [5] (iSeq (eVar 2)) (.name 5) bYes (eTget (eVar 0) (aCons (eVar 3) (aCons (eVar 5) aNil))))] [some (.ref d), some (.str (tg t)), some (.ref (s ++ [.lst ((seg L t).map (fun e => .str e.nm))] : Sto).length), some (.str sp), none, none] (s ++ [.lst ((seg L t).map (fun e => .str e.nm))] ++ [.lst (((sNm (seg L t)).map En.nm).map W.str)]) (fun o s1 => match o with | .rt w => R w s1 | .nx _ => R .non s1 | _ => False) := fun sp e => by
    refine named_tail kn e (sNm_perm _) ls hd2 gnew ?_
    exact h _ _ _ (sNm_perm _) (sNm_lt kn) gnew (Fr.app.trans (Fr.app.trans Fr.app)) (by simp)
  have te := tg_eq t ht 3 (by decide)
  have e3 : tg 3 = ("exn" : Str) := rfl
  rw [e3] at te
  by_cases q : t = 3
  · rw [decide_eq_true q] at te
    rw [if_pos (of_decide_eq_true te)]
    refine Eq.mpr wps_set ?_
    refine Wp.of rfl ?_
    exact go _ (by rw [q]; rfl)
  · rw [decide_eq_false q] at te
    rw [if_neg (of_decide_eq_false te)]
    refine Eq.mpr wps_pass ?_
    exact go _ (by unfold En.sp; rw [if_neg q])
end K44

set_option Elab.async false
set_option linter.all false
set_option maxRecDepth 100000
namespace K44
open PySem PySem.Spec PyProof.Rows L2 Mir
theorem addL {a b : Nat} {x y : List W} {s : Sto} (h1 : s[a]? = some (.lst x)) (h2 : s[b]? = some (.lst y)) (hl : x.length + y.length ≤ 1000) : gAdd (.ref a) (.ref b) s = some (.ref s.length, s ++ [.lst (x ++ y)]) := by
  have e : x.length + y.length ≤ 100000 := by omega
  simp only [gAdd, h1, h2, e, if_true]
def plW (e : En) : W := .tup [.int (e.st : Int), .int (e.k : Int)]
def plD (e : En) : PyData := .tuple [.int (e.st : Int), .int (e.k : Int)]
theorem pl_py (e : En) : pyW (plW e) = some (plD e) := by simp [pyW, pyWs, plW, plD]
theorem pl_sh (e : En) : SeqAt.shaped (plD e) = true := by simp [plD, SeqAt.shaped, PyData.canLay0, PyData.canLayAll0, PyData.depth, PyData.depthAll]
def sPl (l : List En) : List En := l.mergeSort fun a b => decide (a.st < b.st ∨ a.st = b.st ∧ a.k ≤ b.k)
theorem sPl_perm (l : List En) : (sPl l).Perm l := List.mergeSort_perm ..
theorem sPl_lt {l : List En} (h : l.Pairwise fun a b => a.k ≠ b.k) : (sPl l).Pairwise plLt := by
  have pw := List.pairwise_mergeSort (le := fun a b : En => decide (a.st < b.st ∨ a.st = b.st ∧ a.k ≤ b.k)) (fun a b c h1 h2 => by
    simp only [decide_eq_true_eq] at h1 h2 ⊢; omega) (fun a b => by
    simp only [Bool.or_eq_true, decide_eq_true_eq]; omega) l
  have ne : (sPl l).Pairwise fun a b => a.k ≠ b.k := (sPl_perm l).symm.pairwise h fun h e => h e.symm
  refine (pw.and ne).imp fun {a b} ⟨h1, h2⟩ => ?_
  simp only [decide_eq_true_eq] at h1
  unfold plLt
  omega
theorem pl_lt {a b : En} (h : plLt a b) : PySem.W.dataLt (plD a) (plD b) = true := by
  unfold plD
  rw [PySem.W.dataLt_ii]
  unfold plLt at h
  exact decide_eq_true (by omega)
theorem dat_pl (e : En) : datW (plW e) = plD e := by unfold datW; rw [pl_py]; rfl
theorem srt_pl {l : List En} (h : l.Pairwise fun a b => a.k ≠ b.k) : (l.map plW).mergeSort (PySem.W.dataLe false datW) = (sPl l).map plW := by
  refine sort_is _ _ ((sPl_perm l).map _) ?_
  rw [List.pairwise_map]
  refine (sPl_lt h).imp fun {a b} hlt => ?_
  have := pl_lt hlt
  rw [← dat_pl, ← dat_pl] at this
  show (!PySem.W.dataLt (datW (plW a)) (datW (plW b))) = false
  rw [this]
  rfl
theorem datOk_pl (l : List En) : DatOk (l.map plW) := by
  have em : (l.map plW).map datW = l.map plD := by
    rw [List.map_map]
    exact List.map_congr_left fun e _ => dat_pl e
  refine ⟨fun w hw => ?_, ?_, ?_⟩
  · obtain ⟨e, he, rfl⟩ := List.mem_map.mp hw
    exact ⟨plD e, pl_py e, by simp [plD, PyData.depth, PyData.depthAll]⟩
  · rw [em]
    exact PySem.W.AllAlike.of fun a b => by simp [plD, PySem.W.alike, PySem.W.alikeAll]
  · rw [em]
    exact PySem.W.Sortable.tuples fun a => ⟨_, _, rfl⟩
theorem sortT_at {l : List En} {n : Nat} {s : Sto} (h : l.Pairwise fun a b => a.k ≠ b.k) (hl : l.length ≤ 1000) (hn : s[n]? = some (.lst (l.map plW))) : gSortT [.ref n] s = some (.ref s.length, s ++ [.lst ((sPl l).map plW)]) := by
  unfold gSortT
  simp only [lstR hn]
  rw [if_pos ⟨by rw [List.length_map]; omega, datOk_pl l⟩, srt_pl h]
theorem eq_pl {a b : En} {s : Sto} : gEq (plW a) (plW b) s = some (.bl (decide (a.st = b.st ∧ a.k = b.k)), s) := by
  have p1 : pyS s 3 (plW a) = some (plD a) := pl_py a
  have p2 : pyS s 3 (plW b) = some (plD b) := pl_py b
  have e : PyData.eqv (plD a) (plD b) = decide (a.st = b.st ∧ a.k = b.k) := by
    have i2 : ∀ x y : Nat, ((x : Int) == (y : Int)) = decide (x = y) := fun x y => by
      rw [Bool.eq_iff_iff]
      simp only [beq_iff_eq, decide_eq_true_eq]
      exact ⟨fun h => by omega, fun h => by omega⟩
    simp [plD, PyData.eqv, PyData.eqvAll, Bool.decide_and, i2]
  have es : sEq (plW a) (plW b) = none := rfl
  simp only [gEq, eqW, es, datEq, p1, p2, pl_sh, and_self, if_true, e]
theorem pl_one : ∀ {l : List En} {e : En}, (l.Pairwise fun a b => a.k ≠ b.k) → e ∈ l → l.filter (fun x => decide (x.st = e.st ∧ x.k = e.k)) = [e]
  | [], _, _, h => by cases h
  | x :: l, e, kn, h => by
    rw [List.pairwise_cons] at kn
    by_cases q : x = e
    · subst q
      rw [List.filter_cons, if_pos (by simp)]
      have : l.filter (fun y => decide (y.st = x.st ∧ y.k = x.k)) = [] := by
        rw [List.filter_eq_nil_iff]
        intro y hy hh
        exact kn.1 y hy (of_decide_eq_true hh).2.symm
      rw [this]
    · have he : e ∈ l := by
        rcases List.mem_cons.mp h with h | h
        · exact absurd h.symm q
        · exact h
      have : ¬ (decide (x.st = e.st ∧ x.k = e.k) = true) := fun hh => kn.1 e he (of_decide_eq_true hh).2
      rw [List.filter_cons, if_neg this]
      exact pl_one kn.2 he
theorem con_w {e : En} (h : e.kind = 2) : e.w = .tup [.str "con", .str e.high, .int 0, .non, shW e.st, .int (e.k : Int), .tup [.tup [.str e.high, .bl false]]] := by
  obtain ⟨kind, low, high, st, k⟩ := e
  subst h
  rfl
theorem con4 {e : En} {s : Sto} (h : e.kind = 2) : gIx e.w (.int 4) s = some (shW e.st, s) := by rw [con_w h]; exact gx4
theorem con5 {e : En} {s : Sto} (h : e.kind = 2) : gIx e.w (.int 5) s = some (.int (e.k : Int), s) := by rw [con_w h]; exact gx5
theorem shW1 {n : Nat} {s : Sto} : gIx (shW n) (.int 1) s = some (.int (n : Int), s) := ix1
noncomputable abbrev pE : FE := (eTup (aCons (eOp gIx (eOp gIx (eVar 2) (eC (.int 4))) (eC (.int 1))) (aCons (eOp gIx (eVar 2) (eC (.int 5))) aNil)))
theorem pE_at {e : En} {ρ : EnvM} {s : Sto} (h : e.kind = 2) (h2 : ρ[2]? = some (some e.w)) : pE ρ s = some (plW e, s) := by
  unfold pE eTup aCons aNil eOp
  simp only [eVar_at h2, eC, bd_some, con4 h, con5 h, shW1]
  rfl
noncomputable abbrev inB : FS := (sIf (bTest (eOp gEq pE (eVar 5))) (sDo (eMt isL gAppend (eVar 3) (aCons (eVar 2) aNil))) sNil)
theorem in_loop {ρ0 : EnvM} {r3 r4 : Nat} {C0 : List W} {e0 : En} (h3 : ρ0[3]? = some (some (.ref r3))) (h5 : ρ0[5]? = some (some (plW e0))) (hl : 5 < ρ0.length) (hne : r3 ≠ r4) {Q : Out → Sto → Prop} :
    ∀ (C acc : List En) (s : Sto) (x2 : Option W), (∀ e ∈ C, e.kind = 2) → acc.length + C.length ≤ 1000 → s[r3]? = some (.lst (acc.map En.w)) → s[r4]? = some (.lst C0) →
    (∀ x2', Q (.nx (ρ0.set 2 x2')) (s.set r3 (.lst ((acc ++ C.filter (fun x => decide (x.st = e0.st ∧ x.k = e0.k))).map En.w)))) → Wp (fo (.name 2) inB (some (r4, C0)) (C.map En.w) (ρ0.set 2 x2) s) Q
  | [], acc, s, x2, _, _, g3, g4, h => by
    rw [List.map_nil]
    refine fo_goN ⟨g4, ?_⟩
    have := h x2
    rw [List.filter_nil, List.append_nil] at this
    have se : s.set r3 (.lst (acc.map En.w)) = s := by
      obtain ⟨l1, l2⟩ := List.getElem?_eq_some_iff.mp g3
      rw [← l2, List.set_getElem_self]
    rw [se] at this
    exact this
  | e :: C, acc, s, x2, hk, hn, g3, g4, h => by
    have ke := hk e (List.mem_cons_self ..)
    rw [List.map_cons]
    refine fo_goC ⟨g4, ?_⟩
    have st : (ρ0.set 2 x2).set 2 (some e.w) = ρ0.set 2 (some e.w) := List.set_set ..
    simp only [tgM_name, st]
    have e2 : (ρ0.set 2 (some e.w))[2]? = some (some e.w) := List.getElem?_set_self (by omega)
    have e3 : (ρ0.set 2 (some e.w))[3]? = some (some (.ref r3)) := by rw [List.getElem?_set_ne (by decide)]; exact h3
    have e5 : (ρ0.set 2 (some e.w))[5]? = some (some (plW e0)) := by rw [List.getElem?_set_ne (by decide)]; exact h5
    have tt : bTest (eOp gEq pE (eVar 5)) (ρ0.set 2 (some e.w)) s = some (decide (e.st = e0.st ∧ e.k = e0.k), s) := by
      unfold bTest eOp
      rw [pE_at ke e2]
      simp only [bd_some, eVar_at e5, eq_pl]
      try (cases decide (e.st = e0.st ∧ e.k = e0.k) <;> rfl)
    unfold inB
    refine Eq.mpr wps_if ?_
    refine Wp.of tt ?_
    by_cases q : e.st = e0.st ∧ e.k = e0.k
    · rw [if_pos (decide_eq_true q)]
      have ap : gAppend (.ref r3) [e.w] s = some (.non, s.set r3 (.lst ((acc ++ [e]).map En.w))) := by
        have := appL (w := e.w) g3 (by rw [List.length_map]; rw [List.length_cons] at hn; omega)
        rw [this, List.map_append]
        rfl
      refine Eq.mpr wps_do ?_
      refine wp_mt (eVar_at e3) (by simp [isL, g3]) (wp_args1 (Wp.of (eVar_at e2) (Wp.of ap ?_)))
      refine Eq.mpr wps_nil ?_
      refine in_loop h3 h5 hl hne C (acc ++ [e]) _ _ (fun x hx => hk x (List.mem_cons_of_mem _ hx)) (by rw [List.length_append]; rw [List.length_cons] at hn; simp; omega) (getset g3) (by rw [getne (fun z => hne z.symm)]; exact g4) fun x2' => ?_
      have := h x2'
      rw [List.filter_cons, if_pos (decide_eq_true q)] at this
      rw [setset, List.append_assoc]
      exact this
    · rw [if_neg (by simpa using q)]
      refine Eq.mpr wps_nil ?_
      refine in_loop h3 h5 hl hne C acc _ _ (fun x hx => hk x (List.mem_cons_of_mem _ hx)) (by rw [List.length_cons] at hn; omega) g3 g4 fun x2' => ?_
      have := h x2'
      rw [List.filter_cons, if_neg (by simpa using q)] at this
      exact this
noncomputable abbrev outB : FS := (sFor (iSeq (eVar 4)) (.name 2) inB)
theorem out_loop {x0 x1 x6 : Option W} {r3 r4 r5 : Nat} {C : List En} {P0 : List W} (hC : ∀ e ∈ C, e.kind = 2) (kn : C.Pairwise fun a b => a.k ≠ b.k) (h34 : r3 ≠ r4) (h35 : r3 ≠ r5) {Q : Out → Sto → Prop} :
    ∀ (P acc : List En) (s : Sto) (x2 x5 : Option W), (∀ e ∈ P, e ∈ C) → acc.length + P.length + C.length ≤ 1000 → s[r3]? = some (.lst (acc.map En.w)) → s[r4]? = some (.lst (C.map En.w)) → s[r5]? = some (.lst P0) →
    (∀ x2' x5', Q (.nx [x0, x1, x2', some (.ref r3), some (.ref r4), x5', x6]) (s.set r3 (.lst ((acc ++ P).map En.w)))) → Wp (fo (.name 5) outB (some (r5, P0)) (P.map plW) [x0, x1, x2, some (.ref r3), some (.ref r4), x5, x6] s) Q
  | [], acc, s, x2, x5, _, _, g3, g4, g5, h => by
    rw [List.map_nil]
    refine fo_goN ⟨g5, ?_⟩
    have := h x2 x5
    rw [List.append_nil] at this
    have se : s.set r3 (.lst (acc.map En.w)) = s := by
      obtain ⟨l1, l2⟩ := List.getElem?_eq_some_iff.mp g3
      rw [← l2, List.set_getElem_self]
    rw [se] at this
    exact this
  | e :: P, acc, s, x2, x5, hP, hn, g3, g4, g5, h => by
    have he := hP e (List.mem_cons_self ..)
    rw [List.map_cons]
    refine fo_goC ⟨g5, ?_⟩
    simp only [tgM_name]
    refine Eq.mpr wps_for ?_
    have lo := lstR g4
    dsimp! only [lo]
    have il := in_loop (ρ0 := [x0, x1, none, some (.ref r3), some (.ref r4), some (plW e), x6]) (C0 := C.map En.w) rfl rfl (by simp) h34 (Q := fun o s2 => match o with | .nx ρ1 => WpS [] ρ1 s2 (QF (.name 5) outB (some (r5, P0)) (P.map plW) Q) | o => QF (.name 5) outB (some (r5, P0)) (P.map plW) Q o s2) C acc s x2 hC (by rw [List.length_cons] at hn; omega) g3 g4 fun x2' => ?_
    · exact il
    · refine Eq.mpr wps_nil ?_
      rw [pl_one kn he]
      refine out_loop hC kn h34 h35 P (acc ++ [e]) _ _ _ (fun x hx => hP x (List.mem_cons_of_mem _ hx)) (by rw [List.length_append]; rw [List.length_cons] at hn; simp; omega) (getset g3) (by rw [getne (fun z => h34 z.symm)]; exact g4) (by rw [getne (fun z => h35 z.symm)]; exact g5) fun x2' x5' => ?_
      have := h x2' x5'
      rw [setset, List.append_assoc]
      exact this
end K44

set_option Elab.async false
set_option linter.all false
set_option maxRecDepth 100000
namespace K44
open PySem PySem.Spec PyProof.Rows L2 Mir
theorem lsp_ok {e : En} {s : Sto} (hk : e.kind < 8) : FLawSpace [e.w] s = some (.str e.sp, s) := by
  have i0 := fun s => en_ix0 (e := e) (s := s)
  have te := tg_eq e.kind hk 3 (by decide)
  have e3 : tg 3 = ("exn" : Str) := rfl
  rw [e3] at te
  have key : Wp (FLawSpace [e.w] s) (fun w s1 => w = .str e.sp ∧ s1 = s) := by
    unfold FLawSpace
    rw [wp_mkF (by rfl)]
    unfold BLawSpace
    by_cases q : e.kind = 3
    · rw [decide_eq_true q] at te
      have te := of_decide_eq_true te
      simp_all! only [i0, te, if_true]
      exact ⟨by unfold En.sp; rw [if_pos q], trivial⟩
    · rw [decide_eq_false q] at te
      have te := of_decide_eq_false te
      simp_all! only [i0, te, if_false]
      exact ⟨by unfold En.sp; rw [if_neg q], trivial⟩
  obtain ⟨w, s1, e1, rfl, rfl⟩ := key
  exact e1
noncomputable abbrev uC : FT := (bTest (eOp gEq (eOp gIx (eTgetW (eVar 1) (eVar 6)) (eC (.int 0))) (eC (.str "con"))))
noncomputable abbrev fC : FE := (eTgetW (eVar 1) (eVar 6))
theorem lcf_con {L : List En} {d : Nat} {s : Sto} {ρ : EnvM} (kn : KN L) (k8 : ∀ e ∈ L, e.kind < 8) (hd : s[d]? = some (.frt (tabOf L))) (h1 : ρ[1]? = some (some (.ref d))) (h6 : 6 < ρ.length) :
    ∀ l : List En, (∀ e ∈ l, e ∈ L) → lcf (.name 6) uC fC none ρ (l.map kyWE) s = some ((seg l 2).map En.w, s)
  | [], _ => by rw [List.map_nil, lcf, if_pos (show okc none s from trivial)]; rfl
  | e :: l, hl => by
    have he := hl e (List.mem_cons_self ..)
    have e1 : (ρ.set 6 (some (kyWE e)))[1]? = some (some (.ref d)) := by rw [List.getElem?_set_ne (by decide)]; exact h1
    have e6 : (ρ.set 6 (some (kyWE e)))[6]? = some (some (kyWE e)) := by rw [List.getElem?_set_self h6]
    have tw := tgW_at (f := eVar 1) (g := eVar 6) kn he hd (eVar_at e1) (eVar_at e6)
    have ih := lcf_con kn k8 hd h1 h6 l fun x hx => hl x (List.mem_cons_of_mem _ hx)
    have te := tg_eq _ (k8 e he) 2 (by decide)
    have u1 : uC (ρ.set 6 (some (kyWE e))) s = some (decide (e.kind = 2), s) := by
      unfold uC bTest eOp
      rw [tw]
      have e2 : ("con" : Str) = tg 2 := rfl
      simp only [bd_some, eC, en_ix0, e2, eqS, te]
    have f1 : fC (ρ.set 6 (some (kyWE e))) s = some (e.w, s) := tw
    rw [List.map_cons, lcf, if_pos (show okc none s from trivial)]
    simp only [tgM_name, u1, bd_some]
    by_cases q : e.kind = 2
    · rw [decide_eq_true q]
      simp only [if_true, f1, bd_some, ih]
      unfold seg
      rw [List.filter_cons, if_pos (decide_eq_true q)]
      try rfl
    · rw [decide_eq_false q]
      simp only [Bool.false_eq_true, if_false, ih]
      unfold seg
      rw [List.filter_cons, if_neg (by simpa using q)]
theorem con_comp {L : List En} {d : Nat} {s : Sto} {x0 x2 x3 x4 x5 x6 : Option W} (kn : KN L) (k8 : ∀ e ∈ L, e.kind < 8) (hL : L.length ≤ 1000) (hd : s[d]? = some (.dtt (tabOf L))) :
    lkST 1 (sSet 4 (eLc [6] (fiKeysT 1) (.name 6) uC fC)) [x0, some (.ref d), x2, x3, x4, x5, x6] s = some (.nx [x0, some (.ref d), x2, x3, some (.ref s.length), x5, x6], s ++ [.lst ((seg L 2).map En.w)]) := by
  have dt := dtR hd
  have hf : (s.set d (.frt (tabOf L)))[d]? = some (.frt (tabOf L)) := getset hd
  have fr : frtOf (.ref d) (s.set d (.frt (tabOf L))) = some (tabOf L) := by simp only [frtOf, hf]
  have km : (tabOf L).map (fun kv => W.tup (kv.1.map kW)) = L.map kyWE := by unfold tabOf; rw [List.map_map]; rfl
  have lc := lcf_con (ρ := wipeM [x0, some (.ref d), x2, x3, x4, x5, x6] [6]) kn k8 hf rfl (by simp [wipeM]) L fun e he => he
  have g3 := gapp (t := [O.lst ((seg L 2).map En.w)]) hf
  unfold lkST sSet eLc fiKeysT
  simp only [List.getElem?_cons_succ, List.getElem?_cons_zero, dt, fr, bd_some, km]
  rw [if_pos (by rw [List.length_map]; omega), lc]
  simp only [bd_some, g3, List.length_set]
  rw [lk_back hd]
  rfl
theorem lcf_pl {ρ : EnvM} {s : Sto} {c : Option (Nat × List W)} (hc : okc c s) (h2 : 2 < ρ.length) : ∀ C : List En, (∀ e ∈ C, e.kind = 2) → lcf (.name 2) bYes pE c ρ (C.map En.w) s = some (C.map plW, s)
  | [], _ => by rw [List.map_nil, lcf, if_pos hc]; rfl
  | e :: C, hk => by
    have e2 : (ρ.set 2 (some e.w))[2]? = some (some e.w) := List.getElem?_set_self h2
    have p := pE_at (s := s) (hk e (List.mem_cons_self ..)) e2
    have ih := lcf_pl hc h2 C fun x hx => hk x (List.mem_cons_of_mem _ hx)
    rw [List.map_cons, lcf, if_pos hc]
    simp only [tgM_name, bYes, bd_some, if_true, p, ih]
    rfl
theorem seg_k {L : List En} {t : Nat} (h : L.Pairwise fun a b => a.k ≠ b.k) : (seg L t).Pairwise fun a b => a.k ≠ b.k := List.Pairwise.filter _ h
theorem lastE_k {l : List En} (h : l.Pairwise fun a b => a.k ≠ b.k) : (lastE l).Pairwise fun a b => a.k ≠ b.k := by
  have inj : ∀ {l : List En}, (l.Pairwise fun a b => a.k ≠ b.k) → ∀ a ∈ l, ∀ b ∈ l, a.k = b.k → a = b := by
    intro l
    induction l with
    | nil => intro _ a ha; cases ha
    | cons x l ih =>
      intro h a ha b hb e
      rw [List.pairwise_cons] at h
      rcases List.mem_cons.mp ha with ha | ha
      · rcases List.mem_cons.mp hb with hb | hb
        · rw [ha, hb]
        · rw [ha] at e; exact absurd e (h.1 b hb)
      · rcases List.mem_cons.mp hb with hb | hb
        · rw [hb] at e; exact absurd e.symm (h.1 a ha)
        · exact ih h.2 a ha b hb e
  refine (List.Pairwise.and_mem.mp (lastE_kn l)).imp fun {a b} ⟨ha, hb, hne⟩ e => hne ?_
  rw [inj h a (lastE_mem ha) b (lastE_mem hb) e]
theorem due_ok {l : List En} {s : Sto} {R : W → Sto → Prop} (hl : l.length < 64) (k8 : ∀ e ∈ l, e.kind < 8) (hk : l.Pairwise fun a b => a.k ≠ b.k)
    (h : ∀ (s0 s1 s2 s3 s5 s6 : List En) r s', DueOk (lastE l) s0 s1 s2 s3 s5 s6 → s'[r]? = some (.lst ((s0 ++ s1 ++ s2 ++ s3 ++ s5 ++ s6).map En.w)) → R (.ref r) s') : Wp (FLawDue [.tup (l.map En.w)] s) R := by
  have kn := lastE_kn l
  have kk := lastE_k hk
  have k8' : ∀ e ∈ lastE l, e.kind < 8 := fun e he => k8 e (lastE_mem he)
  have hL : (lastE l).length < 64 := Nat.lt_of_le_of_lt (lastE_len l) hl
  unfold FLawDue
  rw [wp_mkF (by rfl)]
  unfold BLawDue
  simp_all! only [eTnew]
  refine wp_fo (fun k ρ s1 => (∃ y, ρ = [some (.tup (l.map En.w)), some (.ref s.length), y, none, none, none, none]) ∧ s1 = s ++ [.dtt (tabOf (lastE (l.take k)))]) _ 0 _ _ ⟨⟨_, rfl⟩, rfl⟩ (fun i x ρ s1 hx hI => ?_) fun ρ s1 hI => ?_
  · obtain ⟨⟨y, rfl⟩, rfl⟩ := hI
    rw [Nat.zero_add]
    rw [List.getElem?_map] at hx
    obtain ⟨e, he, rfl⟩ := Option.map_eq_some_iff.mp hx
    have hke := k8 e (List.mem_of_getElem? he)
    have tk : l.take (i + 1) = l.take i ++ [e] := by rw [List.take_add_one, he]; rfl
    refine ⟨trivial, _, rfl, ?_⟩
    have sp := fun s => lsp_ok (e := e) (s := s) hke
    refine Eq.mpr wps_tput ?_
    have dt := dtR (gnew (s := s) (o := .dtt (tabOf (lastE (l.take i)))) (t := []))
    simp_all! only [sp, en_ix1, dt, ks2]
    have le : (tabOf (lastE (l.take i))).length ≤ 100000 := by
      rw [tab_len]
      refine Nat.le_trans (lastE_len _) ?_
      rw [List.length_take]
      omega
    refine ⟨⟨by decide, le⟩, ?_⟩
    refine Eq.mpr wps_nil ?_
    refine ⟨⟨_, rfl⟩, ?_⟩
    rw [tk, lastE_snoc, ← tab_put]
    simp [List.set_append, En.key]
  · obtain ⟨⟨y, rfl⟩, rfl⟩ := hI
    have tk : l.take (0 + (l.map En.w).length) = l := by rw [List.length_map, Nat.zero_add, List.take_length]
    rw [tk]
    refine ⟨trivial, ?_⟩
    have hd : (s ++ [O.dtt (tabOf (lastE l))] : Sto)[s.length]? = some (.dtt (tabOf (lastE l))) := gnew
    have ld : s.length < (s ++ [O.dtt (tabOf (lastE l))] : Sto).length := by simp
    generalize (s ++ [O.dtt (tabOf (lastE l))] : Sto) = s1 at hd ld ⊢
    generalize s.length = d at hd ld ⊢
    have nm := fun (t : Nat) (ht : t < 8) (s : Sto) (hd : s[d]? = some (.dtt (tabOf (lastE l)))) (R : W → Sto → Prop) => named_ok (R := R) kn k8' ht hL hd
    have sgl : ∀ {t : Nat} {S : List En}, S.Perm (seg (lastE l) t) → S.length < 64 := fun h => by
      rw [h.length_eq]
      exact Nat.lt_of_le_of_lt (List.length_filter_le ..) hL
    simp_all! only []
    refine nm 0 (by decide) s1 hd _ fun S0 r0 s2 p0 n0 g0 f2 l2 => ?_
    have hd2 := f2.at_ _ _ (by simp) hd
    simp_all! only []
    refine nm 1 (by decide) s2 hd2 _ fun S1 r1 s3 p1 n1 g1 f3 l3 => ?_
    have hd3 := f3.at_ _ _ (by simp) hd2
    have g0' := f3.at_ _ _ (by simp) g0
    have a1 := addL g0' g1 (by rw [List.length_map, List.length_map]; have := sgl p0; have := sgl p1; omega)
    rw [← List.map_append] at a1
    have hd4 := gapp (t := [O.lst ((S0 ++ S1).map En.w)]) hd3
    have cc := con_comp (x0 := some (.tup (l.map En.w))) (x2 := y) (x3 := some (.ref s3.length)) (x4 := none) (x5 := none) (x6 := none) kn k8' (by omega) hd4
    simp_all! only [a1]
    refine Eq.mpr wps_cut ?_
    refine Wp.of cc ?_
    have g3 : (s3 ++ [O.lst ((S0 ++ S1).map En.w)] : Sto)[s3.length]? = some (.lst ((S0 ++ S1).map En.w)) := gnew
    have l34 : s3.length < (s3 ++ [O.lst ((S0 ++ S1).map En.w)] : Sto).length := by simp
    have ds3 : d ≠ s3.length := by have := gltn hd3; omega
    generalize (s3 ++ [O.lst ((S0 ++ S1).map En.w)] : Sto) = s4 at hd4 g3 l34 ⊢
    generalize s3.length = r3 at g3 l34 ds3 ⊢
    have g4 : (s4 ++ [O.lst ((seg (lastE l) 2).map En.w)] : Sto)[s4.length]? = some (.lst ((seg (lastE l) 2).map En.w)) := gnew
    have hd5 := gapp (t := [O.lst ((seg (lastE l) 2).map En.w)]) hd4
    have g35 := gapp (t := [O.lst ((seg (lastE l) 2).map En.w)]) g3
    have l45 : s4.length < (s4 ++ [O.lst ((seg (lastE l) 2).map En.w)] : Sto).length := by simp
    have n34 : r3 ≠ s4.length := by omega
    generalize (s4 ++ [O.lst ((seg (lastE l) 2).map En.w)] : Sto) = s5 at g4 hd5 g35 l45 ⊢
    generalize s4.length = r4 at g4 l45 n34 ⊢
    show WpS _ _ _ _
    have k2 : ∀ e ∈ seg (lastE l) 2, e.kind = 2 := seg_kind (.refl _)
    have l2' := sgl (List.Perm.refl (seg (lastE l) 2))
    generalize hC : seg (lastE l) 2 = C at g4 k2 l2' ⊢
    have kC : C.Pairwise fun a b => a.k ≠ b.k := by rw [← hC]; exact seg_k kk
    have lo4 := lstR g4
    have c4 : okc (some (r4, C.map En.w)) s5 := g4
    have gp : (s5 ++ [O.lst (C.map plW)] : Sto)[s5.length]? = some (.lst (C.map plW)) := gnew
    have so := sortT_at kC (by omega) gp
    have lc := fun (ρ : EnvM) (h : 2 < ρ.length) => lcf_pl (ρ := ρ) c4 h C k2
    have lcw : ∀ {ρ : EnvM} {R : List W → Sto → Prop}, 2 < ρ.length → R (C.map plW) s5 → Wp (lcf (.name 2) bYes pE (some (r4, C.map En.w)) ρ (C.map En.w) s5) R := fun h1 h2 => Wp.of (lc _ h1) h2
    first | with_reducible refine Eq.mpr wps_cons ?_ | with_reducible refine Eq.mpr wps_pass ?_ | with_reducible refine Eq.mpr wps_nil ?_ | with_reducible refine Eq.mpr wps_set ?_ | with_reducible refine Eq.mpr wps_do ?_ | with_reducible refine Eq.mpr wps_ret ?_ | with_reducible refine Eq.mpr wps_retN ?_ | with_reducible refine Eq.mpr wps_brk ?_ | with_reducible refine Eq.mpr wps_cnt ?_ | with_reducible refine Eq.mpr wps_if ?_ | with_reducible refine Eq.mpr wps_asg ?_ | with_reducible refine wps_asgL ?_ | with_reducible refine Eq.mpr wps_put ?_ | with_reducible refine Eq.mpr wps_dput ?_ | with_reducible refine Eq.mpr wps_aug ?_ | with_reducible refine Eq.mpr wps_par ?_ | with_reducible refine Eq.mpr wps_for ?_ | with_reducible refine Eq.mpr wps_wh ?_
    first | with_reducible refine Eq.mpr wps_cons ?_ | with_reducible refine Eq.mpr wps_pass ?_ | with_reducible refine Eq.mpr wps_nil ?_ | with_reducible refine Eq.mpr wps_set ?_ | with_reducible refine Eq.mpr wps_do ?_ | with_reducible refine Eq.mpr wps_ret ?_ | with_reducible refine Eq.mpr wps_retN ?_ | with_reducible refine Eq.mpr wps_brk ?_ | with_reducible refine Eq.mpr wps_cnt ?_ | with_reducible refine Eq.mpr wps_if ?_ | with_reducible refine Eq.mpr wps_asg ?_ | with_reducible refine wps_asgL ?_ | with_reducible refine Eq.mpr wps_put ?_ | with_reducible refine Eq.mpr wps_dput ?_ | with_reducible refine Eq.mpr wps_aug ?_ | with_reducible refine Eq.mpr wps_par ?_ | with_reducible refine Eq.mpr wps_for ?_ | with_reducible refine Eq.mpr wps_wh ?_
    dsimp! only [lo4]
    refine ⟨by rw [List.length_map]; omega, ?_⟩
    refine lcw (by simp) ?_
    dsimp! only [so]
    have lo6 := lstR (gnew (s := s5 ++ [O.lst (C.map plW)]) (o := .lst ((sPl C).map plW)) (t := []))
    dsimp! only [lo6]
    have g3' := gapp (t := [O.lst ((sPl C).map plW)]) (gapp (t := [O.lst (C.map plW)]) g35)
    have g4' := gapp (t := [O.lst ((sPl C).map plW)]) (gapp (t := [O.lst (C.map plW)]) g4)
    have hd6 := gapp (t := [O.lst ((sPl C).map plW)]) (gapp (t := [O.lst (C.map plW)]) hd5)
    have g6 : (s5 ++ [O.lst (C.map plW)] ++ [O.lst ((sPl C).map plW)] : Sto)[(s5 ++ [O.lst (C.map plW)] : Sto).length]? = some (.lst ((sPl C).map plW)) := gnew
    have n36 : r3 ≠ (s5 ++ [O.lst (C.map plW)] : Sto).length := by have := gltn g35; simp; omega
    generalize (s5 ++ [O.lst (C.map plW)] : Sto).length = r6 at g6 n36 ⊢
    generalize (s5 ++ [O.lst (C.map plW)] ++ [O.lst ((sPl C).map plW)] : Sto) = s6 at g3' g4' hd6 g6 ⊢
    have lP : (sPl C).length = C.length := (sPl_perm C).length_eq
    refine out_loop k2 kC n34 n36 (sPl C) (S0 ++ S1) s6 _ _ (fun e he => (sPl_perm C).mem_iff.mp he) (by rw [List.length_append, lP]; have := sgl p0; have := sgl p1; omega) g3' g4' g6 fun x2' x5' => ?_
    have hd7 : (s6.set r3 (.lst ((S0 ++ S1 ++ sPl C).map En.w)))[d]? = some (.dtt (tabOf (lastE l))) := by rw [getne ds3]; exact hd6
    have g7 : (s6.set r3 (.lst ((S0 ++ S1 ++ sPl C).map En.w)))[r3]? = some (.lst ((S0 ++ S1 ++ sPl C).map En.w)) := getset g3'
    generalize (s6.set r3 (.lst ((S0 ++ S1 ++ sPl C).map En.w))) = s7 at hd7 g7 ⊢
    show WpS _ _ _ _
    simp_all! only []
    have lC : C.length < 64 := l2'
    have z0 := sgl p0
    have z1 := sgl p1
    refine nm 3 (by decide) s7 hd7 _ fun S3 q3 s8 p3 n3 g8 f8 l8 => ?_
    have z3 := sgl p3
    have hd8 := f8.at_ _ _ (by simp) hd7
    have g78 := f8.at_ _ _ (by simp) g7
    have a2 := addL g78 g8 (by simp only [List.length_map, List.length_append, lP]; omega)
    rw [← List.map_append] at a2
    rw [a2, wp_some]
    have hd9 := gapp (t := [O.lst ((S0 ++ S1 ++ sPl C ++ S3).map En.w)]) hd8
    have g9 : (s8 ++ [O.lst ((S0 ++ S1 ++ sPl C ++ S3).map En.w)] : Sto)[s8.length]? = some (.lst ((S0 ++ S1 ++ sPl C ++ S3).map En.w)) := gnew
    refine nm 5 (by decide) _ hd9 _ fun S5 q5 s10 p5 n5 g10 f10 l10 => ?_
    have z5 := sgl p5
    have hd10 := f10.at_ _ _ (by simp) hd9
    have g9' := f10.at_ _ _ (by simp) g9
    have a3 := addL g9' g10 (by simp only [List.length_map, List.length_append, lP]; omega)
    rw [← List.map_append] at a3
    rw [a3, wp_some]
    have hd11 := gapp (t := [O.lst ((S0 ++ S1 ++ sPl C ++ S3 ++ S5).map En.w)]) hd10
    have g11 : (s10 ++ [O.lst ((S0 ++ S1 ++ sPl C ++ S3 ++ S5).map En.w)] : Sto)[s10.length]? = some (.lst ((S0 ++ S1 ++ sPl C ++ S3 ++ S5).map En.w)) := gnew
    refine nm 6 (by decide) _ hd11 _ fun S6 q6 s12 p6 n6 g12 f12 l12 => ?_
    have z6 := sgl p6
    have g11' := f12.at_ _ _ (by simp) g11
    have a4 := addL g11' g12 (by simp only [List.length_map, List.length_append, lP]; omega)
    rw [← List.map_append] at a4
    rw [a4, wp_some]
    refine h S0 S1 (sPl C) S3 S5 S6 _ _ ⟨p0, p1, ?_, p3, p5, p6, n0, n1, sPl_lt kC, n3, n5, n6⟩ gnew
    rw [hC]
    exact sPl_perm C
end K44

set_option Elab.async false
set_option linter.all false
set_option maxRecDepth 100000
namespace K44
open PySem PySem.Spec PyProof.Rows L2 Mir
section
variable {s : Sto} {d rr n1 n2 : Nat} {zs ys : List Str} {R : W → Sto → Prop}
structure EnOk (e : En) (i : Nat) : Prop where
  k8 : e.kind < 8
  lo : NOk e.low
  hi : NOk e.high
  k : e.k = i
theorem str_in {n j : Nat} {s : Sto} {zs : List Str} (h : s[n]? = some (.lst (zs.map W.str))) (hj : j < zs.length) : ∃ z ∈ zs, gIx (.ref n) (.int (j : Int)) s = some (.str z, s) := by
  refine ⟨zs[j], List.getElem_mem hj, ixL h ?_⟩
  rw [List.getElem?_map, List.getElem?_eq_getElem hj]
  rfl
theorem nk4 : ((4 : Nat) : Int) = 4 := rfl
theorem nk5 : ((5 : Nat) : Int) = 5 := rfl
theorem nk6 : ((6 : Nat) : Int) = 6 := rfl
theorem nk7 : ((7 : Nat) : Int) = 7 := rfl
theorem entry_tail {x0 x1 x2 : Option W} {kind st i : Nat} {low high : Str} {s : Sto} (hk : kind < 8) (h : R (⟨kind, low, high, st, i⟩ : En).w s) :
    WpS [(sCons (sSet 8 (eTup (aCons (eC (.str "c")) (aCons (eVar 7) (aCons (eTup aNil) aNil)))))
    (sCons (sIf (bTest (eOp gEq (eVar 4) (eC (.int 0)))) (sRet (eTup (aCons (eC (.str "val")) (aCons (eVar 5) (aCons (eTup (aCons (eC (.int 0)) (aCons (eVar 8) aNil))) aNil))))) sNil)
    (sCons (sIf (bTest (eOp gEq (eVar 4) (eC (.int 1)))) (sRet (eTup (aCons (eC (.str "shape")) (aCons (eVar 5) (aCons (eC (.int 0)) (aCons (eVar 8) aNil)))))) sNil)
    (sCons (sIf (bTest (eOp gEq (eVar 4) (eC (.int 2)))) (sRet (eTup (aCons (eC (.str "con")) (aCons (eVar 6) (aCons (eC (.int 0)) (aCons (eC .non) (aCons (eVar 8) (aCons (eVar 3) (aCons (eTup (aCons (eTup (aCons (eVar 6) (aCons (eC (.bl false)) aNil))) aNil)) aNil))))))))) sNil)
    (sCons (sIf (bTest (eOp gEq (eVar 4) (eC (.int 3)))) (sRet (eTup (aCons (eC (.str "exn")) (aCons (eVar 6) (aCons (eC .non) aNil))))) sNil)
    (sCons (sIf (bTest (eOp gEq (eVar 4) (eC (.int 4)))) (sRet (eTup (aCons (eC (.str "name")) (aCons (eVar 5) (aCons (eVar 8) aNil))))) sNil)
    (sCons (sIf (bTest (eOp gEq (eVar 4) (eC (.int 5)))) (sRet (eTup (aCons (eC (.str "module")) (aCons (eVar 6) (aCons (eTup (aCons (eTup (aCons (eC (.str "val")) (aCons (eVar 5) (aCons (eTup (aCons (eC (.int 0)) (aCons (eVar 8) aNil))) aNil)))) aNil)) aNil))))) sNil)
    (sCons (sIf (bTest (eOp gEq (eVar 4) (eC (.int 6)))) (sRet (eTup (aCons (eC (.str "functor")) (aCons (eVar 6) (aCons (eTup (aCons (eTup aNil) (aCons (eTup aNil) aNil))) (aCons (eTup aNil) (aCons (eTup aNil) aNil))))))) sNil)
    (sRet (eTup (aCons (eC (.str "signature")) (aCons (eVar 6) (aCons (eTup (aCons (eTup aNil) (aCons (eTup aNil) aNil))) aNil)))))))))))))]
    [x0, x1, x2, some (.int (i : Int)), some (.int (kind : Int)), some (.str low), some (.str high), some (.int (st : Int)), none] s (fun o s1 => match o with | .rt w => R w s1 | .nx _ => R .non s1 | _ => False) := by
  match kind, hk with
  | 0, _ =>
    simp! only [Int.reduceEq, nk4, nk5, nk6, nk7]
    exact h
  | 1, _ =>
    simp! only [Int.reduceEq, nk4, nk5, nk6, nk7]
    exact h
  | 2, _ =>
    simp! only [Int.reduceEq, nk4, nk5, nk6, nk7]
    exact h
  | 3, _ =>
    simp! only [Int.reduceEq, nk4, nk5, nk6, nk7]
    exact h
  | 4, _ =>
    simp! only [Int.reduceEq, nk4, nk5, nk6, nk7]
    exact h
  | 5, _ =>
    simp! only [Int.reduceEq, nk4, nk5, nk6, nk7]
    exact h
  | 6, _ =>
    simp! only [Int.reduceEq, nk4, nk5, nk6, nk7]
    exact h
  | 7, _ =>
    simp! only [Int.reduceEq, nk4, nk5, nk6, nk7]
    exact h
theorem entry_ok {i : Nat} (D : Drw s d rr) (g1 : s[n1]? = some (.lst (zs.map W.str))) (g2 : s[n2]? = some (.lst (ys.map W.str))) (l1 : zs.length = 4) (l2 : ys.length = 4) (o1 : ∀ z ∈ zs, NOk z) (o2 : ∀ z ∈ ys, NOk z) (d1 : n1 ≠ d) (d2 : n2 ≠ d)
    (h : ∀ e s', EnOk e i → Drw s' d rr → Mir.Fr [d] s s' → R e.w s') : Wp (FLawEntry [.ref d, .ref n1, .ref n2, .int (i : Int)] s) R := by
  unfold FLawEntry
  rw [wp_mkF (by rfl)]
  unfold BLawEntry
  simp_all! only []
  refine take_ok D 8 (by decide) (by decide) fun kind s1 h1 D1 f1 _ => ?_
  simp_all! only []
  refine take_ok D1 4 (by decide) (by decide) fun j1 s2 hj1 D2 f2 _ => ?_
  have f12 := f1.trans f2
  obtain ⟨low, m1, e1⟩ := str_in (j := j1) (f12.at_ n1 _ (by simp [d1]) g1) (by omega)
  simp_all! only [e1]
  refine take_ok D2 4 (by decide) (by decide) fun j2 s3 hj2 D3 f3 _ => ?_
  have f13 := f12.trans f3
  obtain ⟨high, m2, e2⟩ := str_in (j := j2) (f13.at_ n2 _ (by simp [d2]) g2) (by omega)
  simp_all! only [e2]
  refine take_ok D3 12 (by decide) (by decide) fun st s4 hst D4 f4 _ => ?_
  refine entry_tail h1 ?_
  exact h ⟨kind, low, high, st, i⟩ s4 ⟨h1, o1 _ m1, o2 _ m2, rfl⟩ D4 (f13.trans f4)
end
theorem pl_sW {n st : Nat} : PlW (n + 4) (shW st) := PlW.tup (.cons (.str (str_ok _)) (.cons .int (.cons (.tup .nil) .nil)))
theorem pl_nilT {n : Nat} : PlW (n + 4) (.tup [.tup [], .tup []]) := PlW.tup (.cons (.tup .nil) (.cons (.tup .nil) .nil))
theorem pl_en {e : En} (h1 : NOk e.low) (h2 : NOk e.high) : PlW 40 e.w := by
  obtain ⟨kind, low, high, st, k⟩ := e
  have p1 : PyData.strOk low = true := h1.1
  have p2 : PyData.strOk high = true := h2.1
  have q1 : ∀ {n}, PlW (n + 1) (.str low) := PlW.str p1
  have q2 : ∀ {n}, PlW (n + 1) (.str high) := PlW.str p2
  have q3 : ∀ {n} (z : String), PlW (n + 1) (.str (z : Str)) := fun z => PlW.str (str_ok z)
  match kind with
  | 0 => exact PlW.tup (.cons (q3 _) (.cons q1 (.cons (.tup (.cons .int (.cons pl_sW .nil))) .nil)))
  | 1 => exact PlW.tup (.cons (q3 _) (.cons q1 (.cons .int (.cons pl_sW .nil))))
  | 2 => exact PlW.tup (.cons (q3 _) (.cons q2 (.cons .int (.cons .non (.cons pl_sW (.cons .int (.cons (.tup (.cons (.tup (.cons q2 (.cons .bl .nil))) .nil)) .nil)))))))
  | 3 => exact PlW.tup (.cons (q3 _) (.cons q2 (.cons .non .nil)))
  | 4 => exact PlW.tup (.cons (q3 _) (.cons q1 (.cons pl_sW .nil)))
  | 5 => exact PlW.tup (.cons (q3 _) (.cons q2 (.cons (.tup (.cons (.tup (.cons (q3 _) (.cons q1 (.cons (.tup (.cons .int (.cons pl_sW .nil))) .nil)))) .nil)) .nil)))
  | 6 => exact PlW.tup (.cons (q3 _) (.cons q2 (.cons pl_nilT (.cons (.tup .nil) (.cons (.tup .nil) .nil)))))
  | n + 7 => exact PlW.tup (.cons (q3 _) (.cons q2 (.cons pl_nilT .nil)))
end K44

set_option Elab.async false
set_option linter.all false
set_option maxRecDepth 100000
namespace K44
open PySem PySem.Spec PyProof.Rows L2 Mir
theorem due_of {l : List En} (hk : l.Pairwise fun a b => a.k ≠ b.k) : DueOk (lastE l) (sNm (seg (lastE l) 0)) (sNm (seg (lastE l) 1)) (sPl (seg (lastE l) 2)) (sNm (seg (lastE l) 3)) (sNm (seg (lastE l) 5)) (sNm (seg (lastE l) 6)) :=
  ⟨sNm_perm _, sNm_perm _, sPl_perm _, sNm_perm _, sNm_perm _, sNm_perm _, sNm_lt (lastE_kn l), sNm_lt (lastE_kn l), sPl_lt (seg_k (lastE_k hk)), sNm_lt (lastE_kn l), sNm_lt (lastE_kn l), sNm_lt (lastE_kn l)⟩
theorem neSm {w : W} {s : Sto} (h : PlW 64 w) : gNe w w s = some (.bl false, s) := by
  have := eqSame (s := s) h
  unfold gEq at this
  unfold gNe
  cases e : eqW s w w with
  | none => rw [e] at this; cases this
  | some b =>
    rw [e] at this
    simp only [Option.some.injEq, Prod.mk.injEq, W.bl.injEq, and_true] at this
    rw [this]
    rfl
set_option maxHeartbeats 0 in
theorem main_ok {ns : List Int} : Wp (FLaw [.lro (ns.map W.int)] []) (fun w _ => w = .bl true) := by
  unfold FLaw
  rw [wp_mkF (by rfl)]
  unfold BLaw
  rw [wps_cons, wps_set]
  dsimp! only []
  refine draws_ok fun d rr s1 D1 f1 hd => ?_
  rw [wps_cons, wps_set]
  dsimp! only []
  refine pool_ok (many := 4) (by decide) D1 fun n1 small s2 h1 l1 _ o1 D2 f2 g2 => ?_
  rw [wps_cons, wps_set]
  dsimp! only []
  refine pool_ok (many := 4) (by decide) D2 fun n2 large s3 h2 l2 _ o2 D3 f3 g3 => ?_
  have d1 := D1.lt
  have d2 := D2.lt
  have nd1 : n1 ≠ d := by omega
  have nd2 : n2 ≠ d := by omega
  have h1' := f3.at_ n1 _ (by simp [nd1]) h1
  rw [wps_cons, wps_set]
  simp_all! only [Mir.iRng1]
  refine take_ok D3 17 (by decide) (by decide) fun kk s4 hkk D4 f4 _ => ?_
  have a1 := f4.at_ n1 _ (by simp [nd1]) h1'
  have a2 := f4.at_ n2 _ (by simp [nd2]) h2
  refine Wp.of (if_pos ⟨by omega, by omega⟩) ?_
  dsimp only
  refine ⟨by simp; omega, ?_⟩
  refine wp_lcf (fun k acc s => ∃ l : List En, acc = l.map En.w ∧ l.length = k ∧ (∀ e ∈ l, e.kind < 8 ∧ NOk e.low ∧ NOk e.high ∧ e.k < k) ∧ (l.Pairwise fun a b => a.k ≠ b.k) ∧ Drw s d rr ∧ s[n1]? = some (O.lst (List.map W.str small)) ∧ s[n2]? = some (O.lst (List.map W.str large))) _ 0 [] _ ⟨[], rfl, rfl, by simp, .nil, D4, a1, a2⟩ (fun i x acc s hx hI => ?_) fun acc s hI => ?_
  · rw [Nat.zero_add] at hI ⊢
    obtain ⟨l, rfl, e0, q1, q2, D, b1, b2⟩ := hI
    rw [List.getElem?_map] at hx
    obtain ⟨j, hj, rfl⟩ := Option.map_eq_some_iff.mp hx
    obtain ⟨hj1, hj2⟩ := List.getElem?_eq_some_iff.mp hj
    rw [List.getElem_range] at hj2
    subst hj2
    refine ⟨trivial, _, rfl, ?_⟩
    have z0 : (0 : Int) + ((i : Nat) : Int) = ((i : Nat) : Int) := Int.zero_add _
    dsimp! only [z0]
    refine entry_ok D b1 b2 l1 l2 o1 o2 nd1 nd2 fun e s' ok D' f' => ?_
    refine ⟨l ++ [e], by rw [List.map_append]; rfl, by rw [List.length_append, e0]; rfl, fun x hx => ?_, ?_, D', f'.at_ n1 _ (by simp [nd1]) b1, f'.at_ n2 _ (by simp [nd2]) b2⟩
    · rcases List.mem_append.mp hx with hx | hx
      · obtain ⟨r1, r2, r3, r4⟩ := q1 x hx
        exact ⟨r1, r2, r3, by omega⟩
      · rw [List.mem_singleton.mp hx]
        exact ⟨ok.k8, ok.lo, ok.hi, by rw [ok.k]; omega⟩
    · rw [List.pairwise_append]
      refine ⟨q2, by simp, fun x hx y hy => ?_⟩
      rw [List.mem_singleton.mp hy, ok.k]
      have := (q1 x hx).2.2.2
      omega
  · obtain ⟨l, rfl, e1, q1, q2, D, b1, b2⟩ := hI
    rw [List.length_map, List.length_range] at e1
    refine ⟨trivial, fun ws e => ?_⟩
    rw [List.nil_append] at e
    subst e
    have tl := tupL (gnew (s := s) (o := .lst (l.map En.w)) (t := []))
    have k8 : ∀ e ∈ l, e.kind < 8 := fun e he => (q1 e he).1
    have ll : l.length < 64 := by simp at e1; omega
    have D0 := due_of q2
    rw [tl, wp_some]
    generalize (s ++ [O.lst (l.map En.w)] : Sto) = t1
    have P0 := due_perm D0
    have L0 := due_lt D0
    obtain ⟨due, hdue⟩ : ∃ due, due = sNm (seg (lastE l) 0) ++ sNm (seg (lastE l) 1) ++ sPl (seg (lastE l) 2) ++ sNm (seg (lastE l) 3) ++ sNm (seg (lastE l) 5) ++ sNm (seg (lastE l) 6) := ⟨_, rfl⟩
    rw [← hdue] at P0 L0
    have dm : ∀ e ∈ due, e ∈ l ∧ inO e = true := fun e he => by
      have := P0.mem_iff.mp he
      exact ⟨lastE_mem (List.mem_filter.mp this).1, (List.mem_filter.mp this).2⟩
    have dl : due.length ≤ 63 := by
      have := P0.length_eq
      have h2 := List.length_filter_le inO (lastE l)
      have h3 := lastE_len l
      omega
    have kd : KN due := P0.symm.pairwise (List.Pairwise.filter _ (lastE_kn l)) fun h e => h e.symm
    have pd : PlW 64 (.tup (due.map En.w)) := (PlW.tup (n := 40) (PlWs.of fun w hw => by
      obtain ⟨e, he, rfl⟩ := List.mem_map.mp hw
      obtain ⟨_, r2, r3, _⟩ := q1 e (dm e he).1
      exact pl_en r2 r3)).mono (by omega)
    simp_all! only []
    refine tidy_ok (by omega) k8 P0 L0 fun t2 _ => ?_
    have nd : ∀ s, gNe (.tup (due.map En.w)) (.tup (due.map En.w)) s = some (.bl false, s) := fun s => neSm pd
    have ed : ∀ s, gEq (.tup (due.map En.w)) (.tup (due.map En.w)) s = some (.bl true, s) := fun s => eqSame pd
    have it : isiT "tuple" "tuple" = true := rfl
    have ty : ∀ (ws : List W) s, tyW (.tup ws) s = some "tuple" := fun _ _ => rfl
    simp_all! only [ty, it, truB]
    refine due_ok ll k8 q2 fun S0 S1 S2 S3 S5 S6 r t3 D1 g => ?_
    have P1 := due_perm D1
    have L1 := due_lt D1
    have same : S0 ++ S1 ++ S2 ++ S3 ++ S5 ++ S6 = due := (level_is P1 L1).symm.trans (level_is P0 L0)
    rw [same] at g
    have t3' := tupL g
    simp_all! only [t3', nd]
    refine tidy_ok (due := due) (by omega) (fun e he => k8 e (dm e he).1) ?_ L0 fun t4 _ => ?_
    · rw [lastE_id kd]
      have : due.filter inO = due := List.filter_eq_self.mpr fun e he => (dm e he).2
      rw [this]
    · simp_all! only [ed]
theorem pure_law : ∀ ns : List Int, ns.length ≤ 63 → ∃ s, FLaw [.lro (ns.map W.int)] [] = some (.bl true, s) := by
  intro ns hn
  obtain ⟨w, s', e, rfl⟩ := main_ok (ns := ns)
  exact ⟨s', e⟩
end K44

set_option Elab.async false
set_option linter.all false
set_option maxRecDepth 100000
namespace K44
open PySem PySem.Spec PyProof.Rows L2 Mir
set_option maxHeartbeats 0 in
theorem all_mk {l : PySem.W.OpenLaw} {w : World} {K : PySem.W.Frag} {h : Heap} {mg : Str → Option Value} {fa f1 f2 f3 f4 f5 f6 f7 f8 f9 f10 f11 f12 f13 f14 : Addr} (X : K.In h) (G : h.Ns mainGlobals mg) (hfa : mg "law" = some (.ref fa))
    {od1 an1 od2 an2 od3 an3 od4 an4 od5 an5 od6 an6 od7 an7 od8 an8 od9 an9 od10 an10 od11 an11 od12 an12 od13 an13 od14 an14 : Option Addr} {sl1 sl2 sl3 sl4 sl5 sl6 sl7 sl8 sl9 sl10 sl11 sl12 sl13 sl14 : Array (Option Value)} {oc1 kV1 dc1 pm1 cd1 ct1 oc2 kV2 dc2 pm2 cd2 ct2 oc3 kV3 dc3 pm3 cd3 ct3 oc4 kV4 dc4 pm4 cd4 ct4 oc5 kV5 dc5 pm5 cd5 ct5 oc6 kV6 dc6 pm6 cd6 ct6 oc7 kV7 dc7 pm7 cd7 ct7 oc8 kV8 dc8 pm8 cd8 ct8 oc9 kV9 dc9 pm9 cd9 ct9 oc10 kV10 dc10 pm10 cd10 ct10 oc11 kV11 dc11 pm11 cd11 ct11 oc12 kV12 dc12 pm12 cd12 ct12 oc13 kV13 dc13 pm13 cd13 ct13 oc14 kV14 dc14 pm14 cd14 ct14 : Value}
    (a1 : PySem.W.nsIn K mainGlobals "space_of" = some (some (.ref f1))) (l1 : K.lookup f1 = some ⟨oc1, od1, .func (PySem.W.fnOf "space_of" "space_of" (defArgs sSpaceOf) (defBody sSpaceOf) (defScope sSpaceOf) .none kV1 dc1 pm1 an1 cd1 ct1), sl1⟩) (c1 : PySem.W.codeIn K cd1 "space_of" = true) (k1 : PySem.W.keepIn K (.ref f1) = true)
    (a2 : PySem.W.nsIn K mainGlobals "tidy" = some (some (.ref f2))) (l2 : K.lookup f2 = some ⟨oc2, od2, .func (PySem.W.fnOf "tidy" "tidy" (defArgs sTidy) (defBody sTidy) (defScope sTidy) .none kV2 dc2 pm2 an2 cd2 ct2), sl2⟩) (c2 : PySem.W.codeIn K cd2 "tidy" = true) (k2 : PySem.W.keepIn K (.ref f2) = true)
    (a3 : PySem.W.nsIn K mainGlobals "level_place" = some (some (.ref f3))) (l3 : K.lookup f3 = some ⟨oc3, od3, .func (PySem.W.fnOf "level_place" "level_place" (defArgs sLevelPlace) (defBody sLevelPlace) (defScope sLevelPlace) .none kV3 dc3 pm3 an3 cd3 ct3), sl3⟩) (c3 : PySem.W.codeIn K cd3 "level_place" = true) (k3 : PySem.W.keepIn K (.ref f3) = true)
    (a4 : PySem.W.nsIn K mainGlobals "_law_mix" = some (some (.ref f4))) (l4 : K.lookup f4 = some ⟨oc4, od4, .func (PySem.W.fnOf "_law_mix" "_law_mix" (defArgs sLawMix) (defBody sLawMix) (defScope sLawMix) .none kV4 dc4 pm4 an4 cd4 ct4), sl4⟩) (c4 : PySem.W.codeIn K cd4 "_law_mix" = true) (k4 : PySem.W.keepIn K (.ref f4) = true)
    (a5 : PySem.W.nsIn K mainGlobals "_law_numbers" = some (some (.ref f5))) (l5 : K.lookup f5 = some ⟨oc5, od5, .func (PySem.W.fnOf "_law_numbers" "_law_numbers" (defArgs sLawNumbers) (defBody sLawNumbers) (defScope sLawNumbers) .none kV5 dc5 pm5 an5 cd5 ct5), sl5⟩) (c5 : PySem.W.codeIn K cd5 "_law_numbers" = true) (k5 : PySem.W.keepIn K (.ref f5) = true)
    (a6 : PySem.W.nsIn K mainGlobals "_law_draws" = some (some (.ref f6))) (l6 : K.lookup f6 = some ⟨oc6, od6, .func (PySem.W.fnOf "_law_draws" "_law_draws" (defArgs sLawDraws) (defBody sLawDraws) (defScope sLawDraws) .none kV6 dc6 pm6 an6 cd6 ct6), sl6⟩) (c6 : PySem.W.codeIn K cd6 "_law_draws" = true) (k6 : PySem.W.keepIn K (.ref f6) = true)
    (a7 : PySem.W.nsIn K mainGlobals "_law_take" = some (some (.ref f7))) (l7 : K.lookup f7 = some ⟨oc7, od7, .func (PySem.W.fnOf "_law_take" "_law_take" (defArgs sLawTake) (defBody sLawTake) (defScope sLawTake) .none kV7 dc7 pm7 an7 cd7 ct7), sl7⟩) (c7 : PySem.W.codeIn K cd7 "_law_take" = true) (k7 : PySem.W.keepIn K (.ref f7) = true)
    (a8 : PySem.W.nsIn K mainGlobals "_law_name" = some (some (.ref f8))) (l8 : K.lookup f8 = some ⟨oc8, od8, .func (PySem.W.fnOf "_law_name" "_law_name" (defArgs sLawName) (defBody sLawName) (defScope sLawName) .none kV8 dc8 pm8 an8 cd8 ct8), sl8⟩) (c8 : PySem.W.codeIn K cd8 "_law_name" = true) (k8 : PySem.W.keepIn K (.ref f8) = true)
    (a9 : PySem.W.nsIn K mainGlobals "_law_pool" = some (some (.ref f9))) (l9 : K.lookup f9 = some ⟨oc9, od9, .func (PySem.W.fnOf "_law_pool" "_law_pool" (defArgs sLawPool) (defBody sLawPool) (defScope sLawPool) .none kV9 dc9 pm9 an9 cd9 ct9), sl9⟩) (c9 : PySem.W.codeIn K cd9 "_law_pool" = true) (k9 : PySem.W.keepIn K (.ref f9) = true)
    (a10 : PySem.W.nsIn K mainGlobals "_law_entry" = some (some (.ref f10))) (l10 : K.lookup f10 = some ⟨oc10, od10, .func (PySem.W.fnOf "_law_entry" "_law_entry" (defArgs sLawEntry) (defBody sLawEntry) (defScope sLawEntry) .none kV10 dc10 pm10 an10 cd10 ct10), sl10⟩) (c10 : PySem.W.codeIn K cd10 "_law_entry" = true) (k10 : PySem.W.keepIn K (.ref f10) = true)
    (a11 : PySem.W.nsIn K mainGlobals "_law_space" = some (some (.ref f11))) (l11 : K.lookup f11 = some ⟨oc11, od11, .func (PySem.W.fnOf "_law_space" "_law_space" (defArgs sLawSpace) (defBody sLawSpace) (defScope sLawSpace) .none kV11 dc11 pm11 an11 cd11 ct11), sl11⟩) (c11 : PySem.W.codeIn K cd11 "_law_space" = true) (k11 : PySem.W.keepIn K (.ref f11) = true)
    (a12 : PySem.W.nsIn K mainGlobals "_law_named" = some (some (.ref f12))) (l12 : K.lookup f12 = some ⟨oc12, od12, .func (PySem.W.fnOf "_law_named" "_law_named" (defArgs sLawNamed) (defBody sLawNamed) (defScope sLawNamed) .none kV12 dc12 pm12 an12 cd12 ct12), sl12⟩) (c12 : PySem.W.codeIn K cd12 "_law_named" = true) (k12 : PySem.W.keepIn K (.ref f12) = true)
    (a13 : PySem.W.nsIn K mainGlobals "_law_due" = some (some (.ref f13))) (l13 : K.lookup f13 = some ⟨oc13, od13, .func (PySem.W.fnOf "_law_due" "_law_due" (defArgs sLawDue) (defBody sLawDue) (defScope sLawDue) .none kV13 dc13 pm13 an13 cd13 ct13), sl13⟩) (c13 : PySem.W.codeIn K cd13 "_law_due" = true) (k13 : PySem.W.keepIn K (.ref f13) = true)
    (a14 : PySem.W.nsIn K mainGlobals "law" = some (some (.ref f14))) (l14 : K.lookup f14 = some ⟨oc14, od14, .func (PySem.W.fnOf "law" "law" (defArgs sLaw) (defBody sLaw) (defScope sLaw) .none kV14 dc14 pm14 an14 cd14 ct14), sl14⟩) (c14 : PySem.W.codeIn K cd14 "law" = true) (k14 : PySem.W.keepIn K (.ref f14) = true)
    (z1 : PySem.W.nsIn K mainGlobals "abs" = some none)
    (z2 : PySem.W.nsIn K mainGlobals "int" = some none)
    (z3 : PySem.W.nsIn K mainGlobals "isinstance" = some none)
    (z4 : PySem.W.nsIn K mainGlobals "len" = some none)
    (z5 : PySem.W.nsIn K mainGlobals "list" = some none)
    (z6 : PySem.W.nsIn K mainGlobals "range" = some none)
    (z7 : PySem.W.nsIn K mainGlobals "sorted" = some none)
    (z8 : PySem.W.nsIn K mainGlobals "str" = some none)
    (z9 : PySem.W.nsIn K mainGlobals "tuple" = some none)
    {dA0 : Addr} {es0 : Array DictEntry} {dn0 : Nat} (x0 : PySem.W.nsIn K mainGlobals "SPACES" = some (some (.ref dA0))) (xa0 : K.lookup dA0 = some ⟨.type "dict", none, .dict es0 dn0, #[]⟩) (xb0 : PySem.W.KeysLit w.params es0.toList) (xc0 : (dA0 == sysModules) = false)
    {tk0_0 : Tok}    (xe0_0 : PySem.W.nsIn K dA0 "exn" = some (some (.str "con" tk0_0)))
    (xn0_0 : PySem.W.nsIn K dA0 "val" = some none)
    (xn0_1 : PySem.W.nsIn K dA0 "shape" = some none)
    (xn0_2 : PySem.W.nsIn K dA0 "con" = some none)
    (xn0_3 : PySem.W.nsIn K dA0 "name" = some none)
    (xn0_4 : PySem.W.nsIn K dA0 "module" = some none)
    (xn0_5 : PySem.W.nsIn K dA0 "functor" = some none)
    (xn0_6 : PySem.W.nsIn K dA0 "signature" = some none)
    {cA1 : Addr} (x1 : PySem.W.nsIn K mainGlobals "SPACE_ORDER" = some (some (.ref cA1)))
    {u1_1 : Tok}
    {u1_2 : Tok}
    {u1_3 : Tok}
    {u1_4 : Tok}
    {u1_5 : Tok}
    {n1_6 : Nat} {sl1_6 : Array (Option Value)} (y1_6 : K.lookup cA1 = some ⟨.type "tuple", none, .seq #[.str "val" u1_1, .str "shape" u1_2, .str "con" u1_3, .str "module" u1_4, .str "functor" u1_5] n1_6, sl1_6⟩)
    : ∃ fd : FuncData, (∀ (s : Shared) (v : Value), BindsTo s fd ⟨[v], []⟩ [("script", v)]) ∧ ∀ base : Heap, K.In base → base.Ns mainGlobals mg → FnOk l.prog w K mg base CX0 6 fa fd ["script"] (spF K 1 FLaw) := by
  have e := hfa.symm.trans (PySem.W.mg_of X G a14)
  cases e
  have F1 := fun_mk (st := sSpaceOf) l1 c1 k1
  have b1 := F1.binds (ps := ["entry"]) fun _ _ _ _ _ _ us hl => match us, hl with | [_], _ => rfl
  have g1 := PySem.W.mg_of X G a1
  have F2 := fun_mk (st := sTidy) l2 c2 k2
  have b2 := F2.binds (ps := ["entries"]) fun _ _ _ _ _ _ us hl => match us, hl with | [_], _ => rfl
  have g2 := PySem.W.mg_of X G a2
  have F3 := fun_mk (st := sLevelPlace) l3 c3 k3
  have b3 := F3.binds (ps := ["entry"]) fun _ _ _ _ _ _ us hl => match us, hl with | [_], _ => rfl
  have g3 := PySem.W.mg_of X G a3
  have F4 := fun_mk (st := sLawMix) l4 c4 k4
  have b4 := F4.binds (ps := ["first", "second"]) fun _ _ _ _ _ _ us hl => match us, hl with | [_, _], _ => rfl
  have g4 := PySem.W.mg_of X G a4
  have F5 := fun_mk (st := sLawNumbers) l5 c5 k5
  have b5 := F5.binds (ps := ["script", "count"]) fun _ _ _ _ _ _ us hl => match us, hl with | [_, _], _ => rfl
  have g5 := PySem.W.mg_of X G a5
  have F6 := fun_mk (st := sLawDraws) l6 c6 k6
  have b6 := F6.binds (ps := ["script", "count"]) fun _ _ _ _ _ _ us hl => match us, hl with | [_, _], _ => rfl
  have g6 := PySem.W.mg_of X G a6
  have F7 := fun_mk (st := sLawTake) l7 c7 k7
  have b7 := F7.binds (ps := ["draws", "bound"]) fun _ _ _ _ _ _ us hl => match us, hl with | [_, _], _ => rfl
  have g7 := PySem.W.mg_of X G a7
  have F8 := fun_mk (st := sLawName) l8 c8 k8
  have b8 := F8.binds (ps := ["draws", "capital"]) fun _ _ _ _ _ _ us hl => match us, hl with | [_, _], _ => rfl
  have g8 := PySem.W.mg_of X G a8
  have F9 := fun_mk (st := sLawPool) l9 c9 k9
  have b9 := F9.binds (ps := ["draws", "capital", "many"]) fun _ _ _ _ _ _ us hl => match us, hl with | [_, _, _], _ => rfl
  have g9 := PySem.W.mg_of X G a9
  have F10 := fun_mk (st := sLawEntry) l10 c10 k10
  have b10 := F10.binds (ps := ["draws", "small", "large", "k"]) fun _ _ _ _ _ _ us hl => match us, hl with | [_, _, _, _], _ => rfl
  have g10 := PySem.W.mg_of X G a10
  have F11 := fun_mk (st := sLawSpace) l11 c11 k11
  have b11 := F11.binds (ps := ["entry"]) fun _ _ _ _ _ _ us hl => match us, hl with | [_], _ => rfl
  have g11 := PySem.W.mg_of X G a11
  have F12 := fun_mk (st := sLawNamed) l12 c12 k12
  have b12 := F12.binds (ps := ["last", "tag"]) fun _ _ _ _ _ _ us hl => match us, hl with | [_, _], _ => rfl
  have g12 := PySem.W.mg_of X G a12
  have F13 := fun_mk (st := sLawDue) l13 c13 k13
  have b13 := F13.binds (ps := ["entries"]) fun _ _ _ _ _ _ us hl => match us, hl with | [_], _ => rfl
  have g13 := PySem.W.mg_of X G a13
  have F14 := fun_mk (st := sLaw) l14 c14 k14
  have b14 := F14.binds (ps := ["script"]) fun _ _ _ _ _ _ us hl => match us, hl with | [_], _ => rfl
  have g14 := PySem.W.mg_of X G a14
  have nb_abs := PySem.W.mg_none_of X G z1
  have nb_int := PySem.W.mg_none_of X G z2
  have nb_isinstance := PySem.W.mg_none_of X G z3
  have nb_len := PySem.W.mg_none_of X G z4
  have nb_list := PySem.W.mg_none_of X G z5
  have nb_range := PySem.W.mg_none_of X G z6
  have nb_sorted := PySem.W.mg_none_of X G z7
  have nb_str := PySem.W.mg_none_of X G z8
  have nb_tuple := PySem.W.mg_none_of X G z9
  have c_SPACES : CDct K w mg "SPACES" T_SPACES := ⟨dA0, es0, dn0, PySem.W.mg_of X G x0, ⟨xa0, xb0, xc0⟩, by
    intro z o hm
    simp only [T_SPACES, List.mem_cons, List.not_mem_nil, or_false, Prod.mk.injEq] at hm
    rcases hm with ⟨rfl, rfl⟩ | ⟨rfl, rfl⟩ | ⟨rfl, rfl⟩ | ⟨rfl, rfl⟩ | ⟨rfl, rfl⟩ | ⟨rfl, rfl⟩ | ⟨rfl, rfl⟩ | ⟨rfl, rfl⟩
    · exact ⟨_, .str "con", xe0_0, ⟨_, rfl⟩, fun _ _ => .str _⟩
    · exact xn0_0
    · exact xn0_1
    · exact xn0_2
    · exact xn0_3
    · exact xn0_4
    · exact xn0_5
    · exact xn0_6
⟩
  have c_SPACE_ORDER : Cst K mg "SPACE_ORDER" (.tup [(.str "val"), (.str "shape"), (.str "con"), (.str "module"), (.str "functor")]) := ⟨.ref cA1, .ref cA1, PySem.W.mg_of X G x1, rfl, fun m H => (cst_tup (vs := [.str "val", .str "shape", .str "con", .str "module", .str "functor"]) y1_6 (show 5 ≤ 100000 by decide) (.cons ⟨_, rfl⟩ (.cons ⟨_, rfl⟩ (.cons ⟨_, rfl⟩ (.cons ⟨_, rfl⟩ (.cons ⟨_, rfl⟩ .nil))))) (.cons (.str _) (.cons (.str _) (.cons (.str _) (.cons (.str _) (.cons (.str _) .nil))))))⟩
  have cst_SPACE_ORDER : CsT K mg "SPACE_ORDER" := ⟨cA1, _, PySem.W.mg_of X G x1, y1_6, rfl, rfl⟩
  refine ⟨PySem.W.fnOf "law" "law" (defArgs sLaw) (defBody sLaw) (defScope sLaw) .none kV14 dc14 pm14 an14 cd14 ct14, fun s v => .of_eq rfl, fun base _ _ => ?_⟩
  have OSpaceOf := okSpaceOf (P := l.prog) (w := w) (base := base) (k := 0) F1 b1 g1 c_SPACES
  have OLevelPlace := okLevelPlace (P := l.prog) (w := w) (base := base) (k := 1) F3 b3 g3 (OSpaceOf.mono (by decide)) cst_SPACE_ORDER c_SPACE_ORDER
  have OTidy := okTidy (P := l.prog) (w := w) (base := base) (k := 2) F2 b2 g2 (OLevelPlace.mono (by decide)) (OSpaceOf.mono (by decide)) nb_list nb_sorted nb_tuple c_SPACE_ORDER
  have OLawMix := okLawMix (P := l.prog) (w := w) (base := base) (k := 0) F4 b4 g4 nb_int
  have OLawNumbers := okLawNumbers (P := l.prog) (w := w) (base := base) (k := 1) F5 b5 g5 (OLawMix.mono (by decide)) nb_abs nb_int nb_len nb_range
  have OLawDraws := okLawDraws (P := l.prog) (w := w) (base := base) (k := 2) F6 b6 g6 (OLawNumbers.mono (by decide))
  have OLawTake := okLawTake (P := l.prog) (w := w) (base := base) (k := 0) F7 b7 g7 nb_int nb_len
  have OLawName := okLawName (P := l.prog) (w := w) (base := base) (k := 1) F8 b8 g8 (OLawTake.mono (by decide)) nb_range
  have OLawPool := okLawPool (P := l.prog) (w := w) (base := base) (k := 2) F9 b9 g9 (OLawName.mono (by decide)) nb_range nb_str
  have OLawEntry := okLawEntry (P := l.prog) (w := w) (base := base) (k := 1) F10 b10 g10 (OLawTake.mono (by decide))
  have OLawSpace := okLawSpace (P := l.prog) (w := w) (base := base) (k := 0) F11 b11 g11 
  have OLawNamed := okLawNamed (P := l.prog) (w := w) (base := base) (k := 0) F12 b12 g12 nb_sorted
  have OLawDue := okLawDue (P := l.prog) (w := w) (base := base) (k := 1) F13 b13 g13 (OLawNamed.mono (by decide)) (OLawSpace.mono (by decide)) nb_sorted
  exact okLaw (P := l.prog) (w := w) (base := base) (k := 5) F14 (OTidy.mono (by decide)) (OLawDue.mono (by decide)) (OLawTake.mono (by decide)) (OLawEntry.mono (by decide)) (OLawPool.mono (by decide)) (OLawDraws.mono (by decide)) nb_isinstance nb_range nb_tuple
end K44
end
open PySem PySem.W PyProof.Rows
set_option maxHeartbeats 0 in
theorem PySem.Challenge.cw_shapewright_k44_tidy_levels_holds : PySem.Challenge.rw_shapewright_k44_tidy_levels.Holds := by
  w_on; o_law; k_head; (case hw => w_witness2)
  k_fill
  refine L2.walk_of (l := PySem.Challenge.rw_shapewright_k44_tidy_levels) (n := 63) (k := 6) (x := "script") (CX := fun _ => L2.CX0) (sp := fun w => Mir.spF _ 1 K44.FLaw) rfl (by decide) rfl ⟨rfl, by decide, by decide⟩ (fun w h Y => PySem.W.kIn_of Y) ?F (fun _ _ a ns hl hO hS => Mir.law_sp hO hS (K44.pure_law ns hl)) (fun _ _ _ _ _ h => h)
  case F =>
    intro w mg fa h KX G hmg
    refine' K44.all_mk KX G hmg ?a1 ?l1 ?c1 ?k1 ?a2 ?l2 ?c2 ?k2 ?a3 ?l3 ?c3 ?k3 ?a4 ?l4 ?c4 ?k4 ?a5 ?l5 ?c5 ?k5 ?a6 ?l6 ?c6 ?k6 ?a7 ?l7 ?c7 ?k7 ?a8 ?l8 ?c8 ?k8 ?a9 ?l9 ?c9 ?k9 ?a10 ?l10 ?c10 ?k10 ?a11 ?l11 ?c11 ?k11 ?a12 ?l12 ?c12 ?k12 ?a13 ?l13 ?c13 ?k13 ?a14 ?l14 ?c14 ?k14 ?z1 ?z2 ?z3 ?z4 ?z5 ?z6 ?z7 ?z8 ?z9 ?x0 ?xa0 ?xb0 ?xc0 ?xe0_0 ?xn0_0 ?xn0_1 ?xn0_2 ?xn0_3 ?xn0_4 ?xn0_5 ?xn0_6 ?x1 ?y1_6
    (case a1 => k_is)
    (case l1 => k_is)
    (case c1 => k_is)
    (case k1 => k_is)
    (case a2 => k_is)
    (case l2 => k_is)
    (case c2 => k_is)
    (case k2 => k_is)
    (case a3 => k_is)
    (case l3 => k_is)
    (case c3 => k_is)
    (case k3 => k_is)
    (case a4 => k_is)
    (case l4 => k_is)
    (case c4 => k_is)
    (case k4 => k_is)
    (case a5 => k_is)
    (case l5 => k_is)
    (case c5 => k_is)
    (case k5 => k_is)
    (case a6 => k_is)
    (case l6 => k_is)
    (case c6 => k_is)
    (case k6 => k_is)
    (case a7 => k_is)
    (case l7 => k_is)
    (case c7 => k_is)
    (case k7 => k_is)
    (case a8 => k_is)
    (case l8 => k_is)
    (case c8 => k_is)
    (case k8 => k_is)
    (case a9 => k_is)
    (case l9 => k_is)
    (case c9 => k_is)
    (case k9 => k_is)
    (case a10 => k_is)
    (case l10 => k_is)
    (case c10 => k_is)
    (case k10 => k_is)
    (case a11 => k_is)
    (case l11 => k_is)
    (case c11 => k_is)
    (case k11 => k_is)
    (case a12 => k_is)
    (case l12 => k_is)
    (case c12 => k_is)
    (case k12 => k_is)
    (case a13 => k_is)
    (case l13 => k_is)
    (case c13 => k_is)
    (case k13 => k_is)
    (case a14 => k_is)
    (case l14 => k_is)
    (case c14 => k_is)
    (case k14 => k_is)
    (case z1 => k_is)
    (case z2 => k_is)
    (case z3 => k_is)
    (case z4 => k_is)
    (case z5 => k_is)
    (case z6 => k_is)
    (case z7 => k_is)
    (case z8 => k_is)
    (case z9 => k_is)
    (case x0 => k_is)
    (case xa0 => k_is)
    (case xb0 => exact ⟨⟨_, _, rfl, rfl⟩, trivial⟩)
    (case xc0 => decide +kernel)
    (case xe0_0 => k_is)
    (case xn0_0 => k_is)
    (case xn0_1 => k_is)
    (case xn0_2 => k_is)
    (case xn0_3 => k_is)
    (case xn0_4 => k_is)
    (case xn0_5 => k_is)
    (case xn0_6 => k_is)
    (case x1 => k_is)
    (case y1_6 => k_is)

