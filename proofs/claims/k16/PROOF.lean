import PyProof.Rows.All
import Wide.All
import OpenK.AllK
import Wide.FinOn
import HandS.ForMost
import HandS.Rev
import HandS.TupAny
import HandS.More
import PySem.Challenge.RW_shapewright_k16_lookup

set_option Elab.async false
set_option linter.all false
set_option maxRecDepth 100000
namespace Vk
open PySem PySem.Spec PyProof.Rows L2
/-! ### the text -/
def topS (i : Nat) : Stmt := PySem.Challenge.pw_shapewright_k16_lookup.main.body.getD i (.Pass ⟨0, 0, 0, 0⟩)
abbrev sSpace : Stmt := topS 2
abbrev sLookup : Stmt := topS 3
abbrev sLastE : Stmt := topS 4
abbrev sTape : Stmt := topS 6
abbrev sPick : Stmt := topS 7
abbrev sEntry : Stmt := topS 8
abbrev sEntries : Stmt := topS 9
abbrev sLast : Stmt := topS 10
abbrev sDue : Stmt := topS 11
abbrev sLaw : Stmt := topS 12
theorem scSpace : FnScope ["entry"] ["entry"] (defScope sSpace) := ⟨rfl, rfl, rfl, by decide +kernel, rfl, by decide +kernel, by decide +kernel⟩
theorem scLookup : FnScope ["entries", "space", "path", "name", "entry"] ["entries", "space", "path"] (defScope sLookup) := ⟨rfl, rfl, rfl, by decide +kernel, rfl, by decide +kernel, by decide +kernel⟩
theorem scLastE : FnScope ["entries", "space", "name", "entry"] ["entries", "space", "name"] (defScope sLastE) := ⟨rfl, rfl, rfl, by decide +kernel, rfl, by decide +kernel, by decide +kernel⟩
theorem scTape : FnScope ["script", "many", "cells", "cell", "big", "value", "tape", "k"] ["script", "many"] (defScope sTape) := ⟨rfl, rfl, rfl, by decide +kernel, rfl, by decide +kernel, by decide +kernel⟩
theorem scPick : FnScope ["tape", "at", "many"] ["tape", "at", "many"] (defScope sPick) := ⟨rfl, rfl, rfl, by decide +kernel, rfl, by decide +kernel, by decide +kernel⟩
theorem scEntry : FnScope ["tape", "at", "level", "name", "kind", "entries"] ["tape", "at", "level"] (defScope sEntry) := ⟨rfl, rfl, rfl, by decide +kernel, rfl, by decide +kernel, by decide +kernel⟩
theorem scEntries : FnScope ["tape", "at", "level", "entries", "many", "k", "entry"] ["tape", "at", "level"] (defScope sEntries) := ⟨rfl, rfl, rfl, by decide +kernel, rfl, by decide +kernel, by decide +kernel⟩
theorem scLast : FnScope ["entries", "space", "name", "found", "entry", "kind"] ["entries", "space", "name"] (defScope sLast) := ⟨rfl, rfl, rfl, by decide +kernel, rfl, by decide +kernel, by decide +kernel⟩
theorem scDue : FnScope ["entries", "space", "path", "name", "inner"] ["entries", "space", "path"] (defScope sDue) := ⟨rfl, rfl, rfl, by decide +kernel, rfl, by decide +kernel, by decide +kernel⟩
theorem scLaw : FnScope ["script", "tape", "first", "at", "second", "third", "entries", "k", "path", "here", "step", "modules", "chosen", "space", "entry"] ["script"] (defScope sLaw) := ⟨rfl, rfl, rfl, by decide +kernel, rfl, by decide +kernel, by decide +kernel⟩

/-! ### d.get(k, x) of a written dict with text keys -/
def tKGet2 (K : PySem.W.Frag) (d : Addr) (td ty tx : TE) : TE := fun σ H Q => td σ H fun x H1 => x = .ref d ∧ ty σ H1 fun y H2 => tx σ H2 fun z H3 =>
  ∃ (k : Str) (r : Option Value), y = .str k ∧ PySem.W.nsIn K d k = some r ∧ (∀ u, r = some u → ∃ v, RelV v u ∧ Q v H3) ∧ (r = none → Q z H3)
section
variable {X : Cx} {o e f : Expr} {apos cpos : Pos} {td ty tx : TE} {d : Addr} {es : Array DictEntry} {n : Nat}
theorem pe_kget2 (D : KDict X.K X.w d es n) (ho : PE X o td) (he : PE X e ty) (hf : PE X f tx) (m : M2 X o "get" apos e f cpos) : PE X (.Call (.Attribute o "get" apos) [e, f] [] cpos) (tKGet2 X.K d td ty tx) := by
  refine ⟨fun pins s σ H Q I h => ?_⟩
  refine wpAny_Call_method m.base m.few m.line PySem.F.plainAttrs_dict PySem.F.slot_dict_get PySem.F.type_dict_get (thn (ho.run pins s σ H _ I h) fun u s1 ⟨x, H1, I1, rx, ex, q1⟩ => ?_)
  subst ex
  obtain rfl : u = Value.ref d := rx
  refine ⟨kd_type D I1, fun b eb => ?_, ?_⟩
  · cases eb
    exact ⟨_, I1.kIn _ _ D.at_, rfl⟩
  rw [m.trees]
  refine Calls.callWith_builtin rfl (Calls.evalArgs_plain (Calls.spliced_cons (thn (he.run pins s1 σ H1 _ I1 q1) fun iv s2 ⟨y, H2, I2, ry, q2⟩ =>
    Calls.spliced_cons (thn (hf.run pins s2 σ H2 _ I2 q2) fun fv s3 ⟨z, H3, I3, rz, k, r, ey, er, q3, q4⟩ => Calls.spliced_nil ?_))))
  subst ey
  obtain ⟨t, rfl⟩ := (show ∃ t, iv = Value.str k t from ry)
  refine call_meetsIn PySem.F.slot_dict_get (kd_type D I3) PySem.F.entry_dict_get (PySem.F.args_dict_get_3 _ _ _) (meets_dict_get_default (PySem.strKind X.prog X.w) d (PySem.strKind_is X.prog X.w k t) D.low fv)
    ⟨_, PySem.W.mapOf_K (prog := X.prog) (w := X.w) I3.kIn D.at_ D.lit, ?_⟩
  rw [PySem.W.find_K D.at_ er]
  cases r with
  | none => exact ⟨z, H3, I3.tok _, rz, q4 rfl⟩
  | some u =>
    obtain ⟨v, rv, qv⟩ := q3 u rfl
    exact ⟨v, H3, I3.tok _, rv, qv⟩
end

/-! ### heaps: the tuples stay -/
def ST (H H' : Hp) : Prop := ∀ b xs, H b = some (.tup xs) → H' b = some (.tup xs)
theorem ST.refl (H : Hp) : ST H H := fun _ _ h => h
theorem ST.trans {H H1 H2 : Hp} (a : ST H H1) (b : ST H1 H2) : ST H H2 := fun c o h => b c o (a c o h)
theorem ST.same {H H' : Hp} (h : Same H H') : ST H H' := fun b xs e => h b _ e
theorem ST.lst {H : Hp} {l : Addr} {xs : List V} (h : H l = some (.lst xs)) (o : HO) : ST H (upd H l o) := fun b ys e => by
  rw [upd_ne (ne_of e h (fun z => by cases z))]
  exact e
theorem same_upd {H : Hp} {p : Addr} {o : HO} (h : H p = none) : Same H (upd H p o) := fun b x e => by
  rw [upd_ne (ne_of_none e h)]
  exact e
/-- H keeps what stood before l was made -/
theorem same_skip {H H' : Hp} {l : Addr} {o : HO} (h : Same H H') (hl : H l = none) : Same H (upd H' l o) := fun b x e => by
  rw [upd_ne (ne_of_none e hl)]
  exact h _ _ e

/-! ### data of ints, texts, bools and tuples -/
inductive DOk (H : Hp) : Nat → V → Prop where
  | non {n : Nat} : DOk H n .non
  | bl {n : Nat} (b : Bool) : DOk H n (.bl b)
  | int {n : Nat} (i : Int) : DOk H n (.int i)
  | str {n : Nat} {x : Str} (h : (PyData.str x).canLay0 = true) : DOk H n (.str x)
  | tup {n : Nat} {p : Addr} {vs : List V} (h : H p = some (.tup vs)) (hv : ∀ v ∈ vs, DOk H n v) : DOk H (n + 1) (.ref p)
theorem DOk.mono {H H' : Hp} (s : ST H H') {n : Nat} {v : V} (h : DOk H n v) : DOk H' n v := by
  induction h with
  | non => exact .non
  | bl b => exact .bl b
  | int i => exact .int i
  | str h => exact .str h
  | tup h hv ih => exact .tup (s _ _ h) ih
theorem DOk.up {H : Hp} {n : Nat} {v : V} (h : DOk H n v) : ∀ {m : Nat}, n ≤ m → DOk H m v := by
  induction h with
  | non => intros; exact .non
  | bl b => intros; exact .bl b
  | int i => intros; exact .int i
  | str h => intros; exact .str h
  | @tup n p vs h hv ih =>
    intro m hm
    obtain ⟨k, rfl⟩ : ∃ k, m = k + 1 := ⟨m - 1, by omega⟩
    exact .tup h (fun v hv' => ih v hv' (by omega))
theorem DOk.dp {K : PySem.W.Frag} {H : Hp} {n : Nat} {v : V} (h : DOk H n v) : ∃ d, Dp K H v d ∧ d.canLay0 = true ∧ d.depth ≤ n := by
  induction h with
  | non => exact ⟨_, .non, rfl, by simp [PyData.depth]⟩
  | bl b => exact ⟨_, .bl b, rfl, by simp [PyData.depth]⟩
  | int i => exact ⟨_, .int i, rfl, by simp [PyData.depth]⟩
  | str h => exact ⟨_, .str _, h, by simp [PyData.depth]⟩
  | @tup n p vs h hv ih =>
    have q : ∃ ds, DpAll K H vs ds ∧ PyData.canLayAll0 ds = true ∧ PyData.depthAll ds ≤ n := by
      clear h hv
      induction vs with
      | nil => exact ⟨[], .nil, rfl, by simp [PyData.depthAll]⟩
      | cons x r ihr =>
        obtain ⟨d, hd, hc, hl⟩ := ih x (List.mem_cons_self)
        obtain ⟨ds, hds, hcs, hls⟩ := ihr (fun v hv => ih v (List.mem_cons_of_mem _ hv))
        refine ⟨d :: ds, .cons hd hds, ?_, ?_⟩
        · show (d.canLay0 && PyData.canLayAll0 ds) = true
          rw [hc, hcs]
          rfl
        · simp only [PyData.depthAll]
          omega
    obtain ⟨ds, hds, hcs, hls⟩ := q
    refine ⟨.tuple ds, .tup (SqT.of h) hds, hcs, ?_⟩
    simp only [PyData.depth]
    omega

/-! ### entries as trees -/
inductive E where
  | leaf (p : Addr) (kind name : Str)
  | mod (p : Addr) (name : Str) (q : Addr) (es : List E)
def E.addr : E → Addr
  | .leaf p _ _ => p
  | .mod p _ _ _ => p
def E.kind : E → Str
  | .leaf _ k _ => k
  | .mod _ _ _ _ => "module"
def E.name : E → Str
  | .leaf _ _ n => n
  | .mod _ n _ _ => n
def E.sub : E → List E
  | .leaf _ _ _ => []
  | .mod _ _ _ es => es
def refs (es : List E) : List V := es.map fun e => V.ref e.addr
def kinds : List Str := ["val", "con", "exn", "shape", "name", "functor", "signature"]
inductive Rep (H : Hp) : Nat → E → Prop where
  | leaf {n : Nat} {p : Addr} {kind name : Str} {rest : List V} (h : H p = some (.tup (.str kind :: .str name :: rest))) (hk : kind ∈ kinds) (hd : DOk H n (.ref p)) : Rep H n (.leaf p kind name)
  | mod {n : Nat} {p : Addr} {name : Str} {q : Addr} {es : List E} (h : H p = some (.tup [.str "module", .str name, .ref q])) (hq : H q = some (.tup (refs es))) (hn : (PyData.str name).canLay0 = true) (hl : es.length ≤ 1000) (he : ∀ e ∈ es, Rep H n e) : Rep H (n + 2) (.mod p name q es)
theorem Rep.mono {H H' : Hp} (s : ST H H') {n : Nat} {e : E} (h : Rep H n e) : Rep H' n e := by
  induction h with
  | leaf h hk hd => exact .leaf (s _ _ h) hk (hd.mono s)
  | mod h hq hn hl he ih => exact .mod (s _ _ h) (s _ _ hq) hn hl ih
theorem Rep.dok {H : Hp} {n : Nat} {e : E} (h : Rep H n e) : DOk H n (.ref e.addr) := by
  induction h with
  | leaf h hk hd => exact hd
  | @mod n p name q es h hq hn hl he ih =>
    refine .tup h (fun v hv => ?_)
    simp only [List.mem_cons, List.not_mem_nil, or_false] at hv
    rcases hv with rfl | rfl | rfl
    · exact .str (by decide +kernel)
    · exact .str hn
    · refine .tup hq (fun v hv => ?_)
      obtain ⟨e, he', rfl⟩ := List.mem_map.mp hv
      exact ih e he'
/-- an entry's tuple -/
theorem Rep.tup {H : Hp} {n : Nat} {e : E} (h : Rep H n e) : ∃ rest, H e.addr = some (.tup (.str e.kind :: .str e.name :: rest)) := by
  cases h with
  | leaf h hk hd => exact ⟨_, h⟩
  | mod h hq hn hl he => exact ⟨_, h⟩
theorem Rep.kind {H : Hp} {n : Nat} {e : E} (h : Rep H n e) : e.kind = "module" ∨ e.kind ∈ kinds := by
  cases h with
  | leaf h hk hd => exact .inr hk
  | mod h hq hn hl he => exact .inl rfl
/-- entries that stand at a -/
structure Reps (H : Hp) (n : Nat) (a : Addr) (es : List E) : Prop where
  at_ : H a = some (.tup (refs es))
  all : ∀ e ∈ es, Rep H n e
  len : es.length ≤ 1000
theorem Reps.mono {H H' : Hp} (s : ST H H') {n : Nat} {a : Addr} {es : List E} (h : Reps H n a es) : Reps H' n a es := ⟨s _ _ h.at_, fun e he => (h.all e he).mono s, h.len⟩
/-- the entries of a module -/
theorem Rep.inner {H : Hp} {n : Nat} {e : E} (h : Rep H n e) (hk : e.kind = "module") : ∃ q m, Reps H m q e.sub ∧ H e.addr = some (.tup [.str e.kind, .str e.name, .ref q]) := by
  cases h with
  | leaf h hk' hd =>
    exfalso
    have hk : (_ : Str) = "module" := hk
    subst hk
    revert hk'
    decide +kernel
  | mod h hq hn hl he => exact ⟨_, _, ⟨hq, he, hl⟩, h⟩
theorem refs_get {es : List E} {i : Nat} {v : V} (h : (refs es)[i]? = some v) : ∃ e, es[i]? = some e ∧ v = .ref e.addr := by
  unfold refs at h
  rw [List.getElem?_map] at h
  cases q : es[i]? with
  | none =>
    rw [q] at h
    cases h
  | some e =>
    rw [q] at h
    exact ⟨e, rfl, (Option.some.inj h).symm⟩
theorem refs_len (es : List E) : (refs es).length = es.length := List.length_map _

/-! ### looking up -/
def spOf (k : Str) : Str := if k = "exn" then "con" else k
def hits (space name : Str) (e : E) : Bool := decide (e.name = name) && decide (spOf e.kind = space)
def lastOf (es : List E) (space name : Str) : Option E := es.reverse.find? (hits space name)
def due (space : Str) : List E → List Str → Option E
  | _, [] => none
  | es, [x] => lastOf es space x
  | es, x :: y :: r => match lastOf es "module" x with
    | none => none
    | some e => due space e.sub (y :: r)
def optV : Option E → V
  | none => .non
  | some e => .ref e.addr
theorem lastOf_mem {es : List E} {s n : Str} {e : E} (h : lastOf es s n = some e) : e ∈ es := List.mem_reverse.mp (List.mem_of_find?_eq_some h)
theorem lastOf_hits {es : List E} {s n : Str} {e : E} (h : lastOf es s n = some e) : hits s n e = true := List.find?_some h
theorem lastOf_snoc (es : List E) (e : E) (s n : Str) : lastOf (es ++ [e]) s n = if hits s n e = true then some e else lastOf es s n := by
  unfold lastOf
  rw [List.reverse_append]
  show List.find? (hits s n) (e :: es.reverse) = _
  rw [List.find?_cons]
  cases hits s n e <;> rfl
theorem spOf_module {k : Str} (h : spOf k = "module") : k = "module" := by
  unfold spOf at h
  split at h
  · exact absurd h (by decide +kernel)
  · exact h
end Vk

set_option Elab.async false
set_option linter.all false
set_option maxRecDepth 100000
namespace Vk
open PySem PySem.Spec PyProof.Rows L2 RT
section
variable {P : Program} {w : World} {K : PySem.W.Frag} {mg : Str → Option Value} {base : Heap}
/-! ### space_of -/
structure Spaces (K : PySem.W.Frag) (w : World) (mg : Str → Option Value) (d : Addr) : Prop where
  dict : ∃ es n, KDict K w d es n
  mgS : mg "SPACES" = some (.ref d)
  exn : ∃ t, PySem.W.nsIn K d "exn" = some (some (.str "con" t))
  val : PySem.W.nsIn K d "val" = some none
  con : PySem.W.nsIn K d "con" = some none
  shape : PySem.W.nsIn K d "shape" = some none
  name : PySem.W.nsIn K d "name" = some none
  functor : PySem.W.nsIn K d "functor" = some none
  signature : PySem.W.nsIn K d "signature" = some none
  module : PySem.W.nsIn K d "module" = some none
theorem Spaces.get {d : Addr} (S : Spaces K w mg d) {k : Str} (h : k = "module" ∨ k ∈ kinds) : ∃ r, PySem.W.nsIn K d k = some r ∧ (∀ u, r = some u → RelV (.str (spOf k)) u) ∧ (r = none → spOf k = k) := by
  have other : ∀ z : Str, PySem.W.nsIn K d z = some none → z ≠ "exn" → ∃ r, PySem.W.nsIn K d z = some r ∧ (∀ u, r = some u → RelV (.str (spOf z)) u) ∧ (r = none → spOf z = z) :=
    fun z e ne => ⟨none, e, fun u q => (by cases q), fun _ => if_neg ne⟩
  rcases h with rfl | h
  · exact other _ S.module (by decide +kernel)
  · simp only [kinds, List.mem_cons, List.not_mem_nil, or_false] at h
    rcases h with rfl | rfl | rfl | rfl | rfl | rfl | rfl
    · exact other _ S.val (by decide +kernel)
    · exact other _ S.con (by decide +kernel)
    · obtain ⟨t, e⟩ := S.exn
      refine ⟨_, e, fun u q => ?_, fun q => (by cases q)⟩
      cases q
      exact ⟨t, rfl⟩
    · exact other _ S.shape (by decide +kernel)
    · exact other _ S.name (by decide +kernel)
    · exact other _ S.functor (by decide +kernel)
    · exact other _ S.signature (by decide +kernel)
def spSpace : Sp := fun vs H Q _ => ∃ (p : Addr) (kind : Str) (rest : List V), vs = [.ref p] ∧ H p = some (.tup (.str kind :: rest)) ∧ (kind = "module" ∨ kind ∈ kinds) ∧ Q (.str (spOf kind)) H
theorem ok_space {f d : Addr} {fd : FuncData} {k : Nat} (F : Fun K "space_of" "space_of" sSpace f fd) (S : Spaces K w mg d) : FnOk P w K mg base CX0 (k + 1) f fd ["entry"] spSpace := by
  refine F.ok scSpace (fun vs H Q E h => ?_) (fun cdv A outer s H vs Q E hr h => ?_)
  · obtain ⟨p, kind, rest, rfl, _⟩ := h
    rfl
  obtain ⟨p, kind, rest, rfl, hp, hk, q⟩ := h
  obtain ⟨es, n, D⟩ := S.dict
  obtain ⟨r, e1, e2, e3⟩ := S.get hk
  refine ⟨_, pss_one (ps_ret (pe_kget2 D (pe_glob (v := .ref d) rfl S.mgS rfl) (pe_ix ix_tup (pv 0) pe_int (fun _ _ => rfl)) (pe_ix ix_tup (pv 0) pe_int (fun _ _ => rfl)) ⟨rfl, rfl, rfl, rfl⟩)), ?_⟩
  refine ⟨rfl, _, rfl, p, _, _, _, rfl, rfl, SqT.of hp, atI_nat (j := 0) rfl, _, rfl, p, _, _, _, rfl, rfl, SqT.of hp, atI_nat (j := 0) rfl, kind, r, rfl, e1, fun u eu => ⟨_, e2 u eu, q⟩, fun en => ?_⟩
  rw [e3 en] at q
  exact q

/-! ### last_entry -/
def spLastE : Sp := fun vs H Q _ => ∃ (a : Addr) (n : Nat) (es : List E) (space name : Str), vs = [.ref a, .str space, .str name] ∧ Reps H n a es ∧ Q (optV (lastOf es space name)) H
theorem take_step {es : List E} {i : Nat} {e : E} (hi : i < es.length) (he : es[es.length - 1 - i]? = some e) (s n : Str) : lastOf (es.take (es.length - i)) s n = if hits s n e = true then some e else lastOf (es.take (es.length - (i + 1))) s n := by
  have e1 : es.length - i = (es.length - 1 - i) + 1 := by omega
  have e2 : es.length - (i + 1) = es.length - 1 - i := by omega
  rw [e1, e2, List.take_add_one, he]
  exact lastOf_snoc _ _ _ _
theorem hits_t {s n : Str} {e : E} (h1 : e.name = n) (h2 : spOf e.kind = s) : hits s n e = true := by
  unfold hits
  rw [decide_eq_true h1, decide_eq_true h2]
  rfl
theorem hits_f {s n : Str} {e : E} (h : ¬ e.name = n ∨ ¬ spOf e.kind = s) : ¬ hits s n e = true := by
  unfold hits
  intro z
  rw [Bool.and_eq_true, decide_eq_true_iff, decide_eq_true_iff] at z
  rcases h with h | h
  · exact h z.1
  · exact h z.2
theorem ok_lastE {f g : Addr} {fd gd : FuncData} {k : Nat} (F : Fun K "last_entry" "last_entry" sLastE f fd) (G : FnOk P w K mg base CX0 k g gd ["entry"] spSpace) (bG : Binds K gd ["entry"] []) (kG : PySem.W.keepIn K (.ref g) = true) (mG : mg "space_of" = some (.ref g)) (mr : mg "reversed" = none) :
    FnOk P w K mg base CX0 (k + 1) f fd ["entries", "space", "name"] spLastE := by
  refine F.ok scLastE (fun vs H Q E h => ?_) (fun cdv A outer s H vs Q E hr h => ?_)
  · obtain ⟨a, n, es, space, name, rfl, _⟩ := h
    rfl
  obtain ⟨a, n, es, space, name, rfl, R, q⟩ := h
  refine ⟨_, pss_cons (ps_for PassesOwn.never rfl (pi_revA rfl mr (pv 0)) (pg_name (i := 3) scLastE.nd rfl (.inl rfl))
      (pss_one (ps_if (PW.pt (pw_and (pt_cmpR op_eq (pe_ix ix_tup (pv 3) pe_int (fun _ _ => rfl)) (pv 2) (nomark _))
        (pw_and1 (pt_cmpR op_eq (pe_call G hr rfl mG kG bG .nil pass0 (pa_cons (pv 3) pa_nil)) (pv 1) (nomark _))))) (pss_one (ps_ret (pv 3))) pss_nil)))
    (pss_one (ps_ret pe_non)), ?_⟩
  refine ⟨_, rfl, a, refs es, rfl, .inr ⟨SqT.of R.at_, ?_⟩⟩
  refine for_ItvT (xs := refs es) (fun i σ H' => H' = H ∧ (∃ y, σ = [some (.ref a), some (.str space), some (.str name), y]) ∧ lastOf es space name = lastOf (es.take (es.length - i)) space name)
    ⟨rfl, ⟨_, rfl⟩, by rw [Nat.sub_zero, List.take_length]⟩ (fun i σ H' h => by rw [h.1]; exact SqT.of R.at_) (fun i x σ H' hi hx h => ?_) (fun σ H' h => ?_)
  · obtain ⟨rfl, ⟨y, rfl⟩, e⟩ := h
    rw [refs_len] at hi hx
    obtain ⟨en, he, rfl⟩ := refs_get hx
    have Re := R.all en (List.mem_of_getElem? he)
    obtain ⟨rest, ht⟩ := Re.tup
    rw [take_step hi he] at e
    show _
    refine ⟨_, rfl, en.addr, _, _, _, rfl, rfl, SqT.of ht, atI_nat (j := 1) rfl, _, rfl, rfl, _, rfl, ?_⟩
    refine ite2 (fun c1 => ?_) (fun c1 => ?_)
    · have n1 : en.name = name := V.str.inj (of_decide_eq_true c1)
      refine ⟨_, rfl, ⟨en.addr, en.kind, _, rfl, ht, Re.kind, _, rfl, rfl, _, rfl, ite2 (fun c2 => ?_) (fun c2 => ?_)⟩⟩
      · have n2 : spOf en.kind = space := V.str.inj (of_decide_eq_true c2)
        rw [if_pos (hits_t n1 n2)] at e
        rw [e] at q
        exact ⟨_, rfl, q⟩
      · have n2 : ¬ spOf en.kind = space := fun z => c2 (decide_eq_true (congrArg V.str z))
        rw [if_neg (hits_f (.inr n2))] at e
        exact ⟨rfl, ⟨_, rfl⟩, e⟩
    · have n1 : ¬ en.name = name := fun z => c1 (decide_eq_true (congrArg V.str z))
      rw [if_neg (hits_f (.inl n1))] at e
      exact ⟨rfl, ⟨_, rfl⟩, e⟩
  · obtain ⟨rfl, _, e⟩ := h
    rw [refs_len, Nat.sub_self, List.take_zero] at e
    rw [e] at q
    exact q

/-! ### lookup -/
def dueN (space : Str) : List E → List Str → Str → Option E
  | es, [], z => lastOf es space z
  | es, x :: r, z => match lastOf es "module" x with
    | none => none
    | some e => dueN space e.sub r z
theorem last_module {H : Hp} {n : Nat} {a : Addr} {es : List E} {x : Str} {e : E} (R : Reps H n a es) (h : lastOf es "module" x = some e) : ∃ q m, Reps H m q e.sub ∧ H e.addr = some (.tup [.str e.kind, .str e.name, .ref q]) := by
  have h1 := lastOf_hits h
  unfold hits at h1
  rw [Bool.and_eq_true, decide_eq_true_iff, decide_eq_true_iff] at h1
  exact (R.all e (lastOf_mem h)).inner (spOf_module h1.2)
theorem cut_last (xs : List V) (v : V) : cutV (xs ++ [v]) none (some (-1)) = xs ∧ ¬ (HT.sIx (xs ++ [v]).length 0 none = 0 ∧ HT.sIx (xs ++ [v]).length (xs ++ [v]).length (some (-1)) = (xs ++ [v]).length) := by
  have e : HT.sIx (xs ++ [v]).length (xs ++ [v]).length (some (-1)) = xs.length := by
    show (if (-1 : Int) < 0 then ((-1 : Int) + ((xs ++ [v]).length : Int)).toNat else min (-1 : Int).toNat (xs ++ [v]).length) = _
    rw [if_pos (by decide), List.length_append, List.length_singleton]
    omega
  refine ⟨?_, ?_⟩
  · unfold cutV
    rw [e, HT.sIx_none, List.drop_zero, Nat.sub_zero]
    exact List.take_left
  · rw [e, List.length_append, List.length_singleton]
    omega
theorem names_at {ns : List Str} {i : Nat} {v : V} (h : (ns.map V.str)[i]? = some v) : ∃ x, v = .str x ∧ ns.drop i = x :: ns.drop (i + 1) := by
  rw [List.getElem?_map] at h
  cases q : ns[i]? with
  | none =>
    rw [q] at h
    cases h
  | some x =>
    rw [q] at h
    obtain ⟨hi, e⟩ := List.getElem?_eq_some_iff.mp q
    exact ⟨x, (Option.some.inj h).symm, by rw [← e]; exact List.drop_eq_getElem_cons hi⟩
def spLookup : Sp := fun vs H Q _ => ∃ (a t : Addr) (n : Nat) (es : List E) (space z : Str) (ns : List Str), vs = [.ref a, .str space, .ref t] ∧ Reps H n a es ∧ H t = some (.tup (ns.map V.str ++ [.str z])) ∧ ∀ H', Same H H' → Q (optV (dueN space es ns z)) H'
theorem ok_lookup {f g : Addr} {fd gd : FuncData} {k : Nat} (F : Fun K "lookup" "lookup" sLookup f fd) (G : FnOk P w K mg base CX0 k g gd ["entries", "space", "name"] spLastE) (bG : Binds K gd ["entries", "space", "name"] []) (kG : PySem.W.keepIn K (.ref g) = true) (mG : mg "last_entry" = some (.ref g)) :
    FnOk P w K mg base CX0 (k + 1) f fd ["entries", "space", "path"] spLookup := by
  refine F.ok scLookup (fun vs H Q E h => ?_) (fun cdv A outer s H vs Q E hr h => ?_)
  · obtain ⟨a, t, n, es, space, z, ns, rfl, _⟩ := h
    rfl
  obtain ⟨a, t, n, es, space, z, ns, rfl, R, ht, q⟩ := h
  refine ⟨_, pss_cons (ps_for PassesOwn.never rfl (pi_tup (pe_slice sl_tupA (pv 2) po_none (po_some (pe_un un_neg pe_int)))) (pg_name (i := 3) scLookup.nd rfl (.inl rfl))
      (pss_cons (ps_set (i := 4) scLookup.nd rfl (.inl rfl) (pe_call G hr rfl mG kG bG .nil pass0 (pa_cons (pv 0) (pa_cons pe_str (pa_cons (pv 3) pa_nil)))))
      (pss_cons (ps_if (pt_cmpR op_isN (pv 4) pe_non (nomark _)) (pss_one (ps_ret pe_non)) pss_nil)
      (pss_one (ps_set (i := 0) scLookup.nd rfl (.inl rfl) (pe_ix ix_tup (pv 4) pe_int (fun _ _ => rfl)))))))
    (pss_one (ps_ret (pe_call G hr rfl mG kG bG .nil pass0 (pa_cons (pv 0) (pa_cons (pv 1) (pa_cons (pe_ix ix_tup (pv 2) (pe_un un_neg pe_int) (fun _ _ => rfl)) pa_nil)))))), ?_⟩
  obtain ⟨c1, c2⟩ := cut_last (ns.map V.str) (.str z)
  refine ⟨_, rfl, 1, rfl, _, rfl, t, _, rfl, SqT.of ht, fun hw => absurd hw c2, fun _ c hc => ?_⟩
  have c1' : cutV (ns.map V.str ++ [.str z]) none (some (-1)) = ns.map V.str := c1
  have S1 : Same H (upd H c (.tup (cutV (ns.map V.str ++ [.str z]) none (some (-1))))) := same_upd hc
  have hcat : upd H c (.tup (cutV (ns.map V.str ++ [.str z]) none (some (-1)))) c = some (.tup (ns.map V.str)) := by rw [upd_same, c1']
  generalize hH1 : upd H c (.tup (cutV (ns.map V.str ++ [.str z]) none (some (-1)))) = H1 at S1 hcat
  have hH1' : upd H c (.tup (cutV (ns.map V.str ++ [.str z]) none (some (-(1 : Int))))) = H1 := hH1
  refine ⟨c, rfl, ⟨_, SqT.of (by rw [← hH1]; exact upd_same)⟩, ?_⟩
  have ht1 := S1 _ _ ht
  refine for_tup (K := K) (a := c) (xs := ns.map V.str) (fun i σ H' => H' = H1 ∧ ∃ a' n' es' y3 y4, σ = [some (.ref a'), some (.str space), some (.ref t), y3, y4] ∧ Reps H1 n' a' es' ∧ dueN space es ns z = dueN space es' (ns.drop i) z)
    ⟨rfl, a, n, es, _, _, rfl, R.mono (ST.same S1), rfl⟩ (fun i σ H' _ h => by rw [h.1]; exact SqT.of hcat) (fun i x σ H' hx h => ?_) (fun σ H' h => ?_)
  · obtain ⟨rfl, a', n', es', y3, y4, rfl, R', e⟩ := h
    obtain ⟨x, rfl, hd⟩ := names_at hx
    rw [hd] at e
    refine ⟨_, rfl, _, rfl, a', n', es', _, _, rfl, R', ?_⟩
    cases hl : lastOf es' "module" x with
    | none =>
      refine ⟨_, rfl, rfl, _, rfl, iteT ?_⟩
      have e2 : dueN space es ns z = none := by
        rw [e]
        unfold dueN
        rw [hl]
      rw [e2] at q
      exact q _ S1
    | some en =>
      obtain ⟨qa, m, R2, htu⟩ := last_module R' hl
      refine ⟨_, rfl, rfl, _, rfl, iteF ?_⟩
      refine ⟨_, rfl, en.addr, _, _, _, rfl, rfl, SqT.of htu, atI_nat (j := 2) rfl, rfl, qa, m, en.sub, _, _, rfl, R2, ?_⟩
      rw [e]
      show (match lastOf es' "module" x with | none => none | some e => dueN space e.sub (ns.drop (i + 1)) z) = _
      rw [hl]
  · obtain ⟨rfl, a', n', es', y3, y4, rfl, R', e⟩ := h
    rw [List.length_map, List.drop_length] at e
    refine ⟨_, rfl, _, rfl, _, rfl, 1, rfl, t, _, _, _, rfl, rfl, SqT.of ht1, atI_last _ _, a', n', es', _, _, rfl, R', ?_⟩
    have e2 : lastOf es' space z = dueN space es ns z := e.symm
    rw [e2]
    exact q _ S1

/-! ### the law's own -/
theorem ok_last {f : Addr} {fd : FuncData} {k : Nat} (F : Fun K "_law_last" "_law_last" sLast f fd) : FnOk P w K mg base CX0 (k + 1) f fd ["entries", "space", "name"] spLastE := by
  refine F.ok scLast (fun vs H Q E h => ?_) (fun cdv A outer s H vs Q E hr h => ?_)
  · obtain ⟨a, n, es, space, name, rfl, _⟩ := h
    rfl
  obtain ⟨a, n, es, space, name, rfl, R, q⟩ := h
  refine ⟨_, pss_cons (ps_set (i := 3) scLast.nd rfl (.inl rfl) pe_non)
    (pss_cons (ps_for PassesOwn.never rfl (pi_tup (pv 0)) (pg_name (i := 4) scLast.nd rfl (.inl rfl))
      (pss_cons (ps_set (i := 5) scLast.nd rfl (.inl rfl) (pe_ix ix_tup (pv 4) pe_int (fun _ _ => rfl)))
      (pss_cons (ps_if (pt_cmpR op_eq (pv 5) pe_str (nomark _)) (pss_one (ps_set (i := 5) scLast.nd rfl (.inl rfl) pe_str)) pss_nil)
      (pss_one (ps_if (PW.pt (pw_and (pt_cmpR op_eq (pv 5) (pv 1) (nomark _)) (pw_and1 (pt_cmpR op_eq (pe_ix ix_tup (pv 4) pe_int (fun _ _ => rfl)) (pv 2) (nomark _)))))
        (pss_one (ps_set (i := 3) scLast.nd rfl (.inl rfl) (pv 4))) pss_nil)))))
    (pss_one (ps_ret (pv 3)))), ?_⟩
  refine ⟨_, rfl, a, rfl, ⟨_, SqT.of R.at_⟩, ?_⟩
  refine for_tup (K := K) (a := a) (xs := refs es) (fun i σ H' => H' = H ∧ ∃ y4 y5, σ = [some (.ref a), some (.str space), some (.str name), some (optV (lastOf (es.take i) space name)), y4, y5])
    ⟨rfl, _, _, rfl⟩ (fun i σ H' _ h => by rw [h.1]; exact SqT.of R.at_) (fun i x σ H' hx h => ?_) (fun σ H' h => ?_)
  · obtain ⟨rfl, y4, y5, rfl⟩ := h
    obtain ⟨en, he, rfl⟩ := refs_get hx
    have Re := R.all en (List.mem_of_getElem? he)
    obtain ⟨rest, htu⟩ := Re.tup
    have es1 : lastOf (es.take (i + 1)) space name = if hits space name en = true then some en else lastOf (es.take i) space name := by
      rw [List.take_add_one, he]
      exact lastOf_snoc _ _ _ _
    refine ⟨_, rfl, en.addr, _, _, _, rfl, rfl, SqT.of htu, atI_nat (j := 0) rfl, _, rfl, rfl, _, rfl, ?_⟩
    have main : ∀ kd : Str, kd = spOf en.kind → ∀ (D : Ends) (σ : L2.St), σ = [some (.ref a), some (.str space), some (.str name), some (optV (lastOf (es.take i) space name)), some (.ref en.addr), some (.str kd)] →
        (∀ σ', (∃ y4 y5, σ' = [some (.ref a), some (.str space), some (.str name), some (optV (lastOf (es.take (i + 1)) space name)), y4, y5]) → D.nx σ' H') →
        tIfS (tAnd (tTest (tOp rEq (tVar 5) (tVar 1))) (tTest (tOp rEq (tOp (rIxT K) (tVar 4) (tC (.int 1))) (tVar 2)))) (tAsg (tVar 4) (gName 3)) tNext D σ H' := by
      rintro kd hkd D σ rfl hD
      refine ⟨_, rfl, _, rfl, rfl, _, rfl, ite2 (fun c1 => ?_) (fun c1 => ?_)⟩
      · have n2 : spOf en.kind = space := hkd ▸ V.str.inj (of_decide_eq_true c1)
        refine ⟨_, rfl, en.addr, _, _, _, rfl, rfl, SqT.of htu, atI_nat (j := 1) rfl, _, rfl, rfl, _, rfl, ite2 (fun c2 => ?_) (fun c2 => ?_)⟩
        · have n1 : en.name = name := V.str.inj (of_decide_eq_true c2)
          rw [if_pos (hits_t n1 n2)] at es1
          refine ⟨_, rfl, hD _ ⟨some (.ref en.addr), some (.str kd), ?_⟩⟩
          rw [es1]
          rfl
        · have n1 : ¬ en.name = name := fun z => c2 (decide_eq_true (congrArg V.str z))
          rw [if_neg (hits_f (.inl n1))] at es1
          refine hD _ ⟨some (.ref en.addr), some (.str kd), ?_⟩
          rw [es1]
      · have n2 : ¬ spOf en.kind = space := fun z => c1 (decide_eq_true (congrArg V.str (hkd.trans z)))
        rw [if_neg (hits_f (.inr n2))] at es1
        refine hD _ ⟨some (.ref en.addr), some (.str kd), ?_⟩
        rw [es1]
    refine ite2 (fun c0 => ?_) (fun c0 => ?_)
    · have k0 : en.kind = "exn" := V.str.inj (of_decide_eq_true c0)
      refine main "con" (by rw [k0]; exact (if_pos rfl).symm) _ _ rfl ?_
      exact fun σ' h => ⟨rfl, h⟩
    · have k0 : ¬ en.kind = "exn" := fun z => c0 (decide_eq_true (congrArg V.str z))
      refine main en.kind (if_neg k0).symm _ _ rfl ?_
      exact fun σ' h => ⟨rfl, h⟩
  · obtain ⟨rfl, y4, y5, rfl⟩ := h
    rw [refs_len, List.take_length]
    exact ⟨_, rfl, q⟩
theorem ok_due {f g : Addr} {fd gd : FuncData} {k : Nat} (F : Fun K "_law_due" "_law_due" sDue f fd) (G : FnOk P w K mg base CX0 k g gd ["entries", "space", "name"] spLastE) (bG : Binds K gd ["entries", "space", "name"] []) (kG : PySem.W.keepIn K (.ref g) = true) (mG : mg "_law_last" = some (.ref g)) :
    FnOk P w K mg base CX0 (k + 1) f fd ["entries", "space", "path"] spLookup := by
  refine F.ok scDue (fun vs H Q E h => ?_) (fun cdv A outer s H vs Q E hr h => ?_)
  · obtain ⟨a, t, n, es, space, z, ns, rfl, _⟩ := h
    rfl
  obtain ⟨a, t, n, es, space, z, ns, rfl, R, ht, q⟩ := h
  refine ⟨_, pss_cons (ps_for PassesOwn.never rfl (pi_tup (pe_slice sl_tupA (pv 2) po_none (po_some (pe_un un_neg pe_int)))) (pg_name (i := 3) scDue.nd rfl (.inl rfl))
      (pss_cons (ps_set (i := 4) scDue.nd rfl (.inl rfl) (pe_call G hr rfl mG kG bG .nil pass0 (pa_cons (pv 0) (pa_cons pe_str (pa_cons (pv 3) pa_nil)))))
      (pss_cons (ps_if (pt_cmpR op_isN (pv 4) pe_non (nomark _)) (pss_one (ps_ret pe_non)) pss_nil)
      (pss_one (ps_set (i := 0) scDue.nd rfl (.inl rfl) (pe_ix ix_tup (pv 4) pe_int (fun _ _ => rfl)))))))
    (pss_one (ps_ret (pe_call G hr rfl mG kG bG .nil pass0 (pa_cons (pv 0) (pa_cons (pv 1) (pa_cons (pe_ix ix_tup (pv 2) (pe_un un_neg pe_int) (fun _ _ => rfl)) pa_nil)))))), ?_⟩
  obtain ⟨c1, c2⟩ := cut_last (ns.map V.str) (.str z)
  refine ⟨_, rfl, 1, rfl, _, rfl, t, _, rfl, SqT.of ht, fun hw => absurd hw c2, fun _ c hc => ?_⟩
  have c1' : cutV (ns.map V.str ++ [.str z]) none (some (-1)) = ns.map V.str := c1
  have S1 : Same H (upd H c (.tup (cutV (ns.map V.str ++ [.str z]) none (some (-1))))) := same_upd hc
  have hcat : upd H c (.tup (cutV (ns.map V.str ++ [.str z]) none (some (-1)))) c = some (.tup (ns.map V.str)) := by rw [upd_same, c1']
  generalize hH1 : upd H c (.tup (cutV (ns.map V.str ++ [.str z]) none (some (-1)))) = H1 at S1 hcat
  have hH1' : upd H c (.tup (cutV (ns.map V.str ++ [.str z]) none (some (-(1 : Int))))) = H1 := hH1
  refine ⟨c, rfl, ⟨_, SqT.of (by rw [← hH1]; exact upd_same)⟩, ?_⟩
  have ht1 := S1 _ _ ht
  refine for_tup (K := K) (a := c) (xs := ns.map V.str) (fun i σ H' => H' = H1 ∧ ∃ a' n' es' y3 y4, σ = [some (.ref a'), some (.str space), some (.ref t), y3, y4] ∧ Reps H1 n' a' es' ∧ dueN space es ns z = dueN space es' (ns.drop i) z)
    ⟨rfl, a, n, es, _, _, rfl, R.mono (ST.same S1), rfl⟩ (fun i σ H' _ h => by rw [h.1]; exact SqT.of hcat) (fun i x σ H' hx h => ?_) (fun σ H' h => ?_)
  · obtain ⟨rfl, a', n', es', y3, y4, rfl, R', e⟩ := h
    obtain ⟨x, rfl, hd⟩ := names_at hx
    rw [hd] at e
    refine ⟨_, rfl, _, rfl, a', n', es', _, _, rfl, R', ?_⟩
    cases hl : lastOf es' "module" x with
    | none =>
      refine ⟨_, rfl, rfl, _, rfl, iteT ?_⟩
      have e2 : dueN space es ns z = none := by
        rw [e]
        unfold dueN
        rw [hl]
      rw [e2] at q
      exact q _ S1
    | some en =>
      obtain ⟨qa, m, R2, htu⟩ := last_module R' hl
      refine ⟨_, rfl, rfl, _, rfl, iteF ?_⟩
      refine ⟨_, rfl, en.addr, _, _, _, rfl, rfl, SqT.of htu, atI_nat (j := 2) rfl, rfl, qa, m, en.sub, _, _, rfl, R2, ?_⟩
      rw [e]
      show (match lastOf es' "module" x with | none => none | some e => dueN space e.sub (ns.drop (i + 1)) z) = _
      rw [hl]
  · obtain ⟨rfl, a', n', es', y3, y4, rfl, R', e⟩ := h
    rw [List.length_map, List.drop_length] at e
    refine ⟨_, rfl, _, rfl, _, rfl, 1, rfl, t, _, _, _, rfl, rfl, SqT.of ht1, atI_last _ _, a', n', es', _, _, rfl, R', ?_⟩
    have e2 : lastOf es' space z = dueN space es ns z := e.symm
    rw [e2]
    exact q _ S1
/-- one draw of the tape: some number from 0 to many - 1 -/
def spPick (K : PySem.W.Frag) : Sp := fun vs H Q _ => ∃ (a : Addr) (ns : List Int) (at_ many : Int), vs = [.ref a, .int at_, .int many] ∧ SqL K H a (ns.map V.int) ∧ 0 < ns.length ∧ 0 < many ∧ ∀ r, 0 ≤ r → r < many → Q (.int r) H
theorem ok_pick {f : Addr} {fd : FuncData} {k : Nat} (F : Fun K "_law_pick" "_law_pick" sPick f fd) (mi : mg "int" = none) (ml : mg "len" = none) : FnOk P w K mg base CX0 (k + 1) f fd ["tape", "at", "many"] (spPick K) := by
  refine F.ok scPick (fun vs H Q E h => ?_) (fun cdv A outer s H vs Q E hr h => ?_)
  · obtain ⟨a, ns, at_, many, rfl, _⟩ := h
    rfl
  obtain ⟨a, ns, at_, many, rfl, hS, hl, hm, q⟩ := h
  refine ⟨_, pss_one (ps_ret (pe_op op_mod (pe_callTy call_int1 (by rfl) mi (by decide +kernel) (pa_cons (pe_ix ix_list (pv 0)
    (pe_op op_mod (pe_callTy call_int1 (by rfl) mi (by decide +kernel) (pa_cons (pv 1) pa_nil)) (pe_callB call_len_seq (by rfl) ml PySem.boot_len (pa_cons (pv 0) pa_nil))) (fun _ _ => rfl)) pa_nil)) (pv 2))), ?_⟩
  have hl' : 0 < (((ns.map V.int).length : Nat) : Int) := by
    rw [List.length_map]
    omega
  have b0 : 0 ≤ at_ % (((ns.map V.int).length : Nat) : Int) := Int.emod_nonneg _ (by omega)
  have b1 : at_ % (((ns.map V.int).length : Nat) : Int) < (((ns.map V.int).length : Nat) : Int) := Int.emod_lt_of_pos _ hl'
  obtain ⟨j, hj⟩ : ∃ j : Nat, at_ % (((ns.map V.int).length : Nat) : Int) = (j : Int) := ⟨_, (Int.toNat_of_nonneg b0).symm⟩
  have hj2 : j < ns.length := by
    rw [hj, List.length_map] at b1
    omega
  have g : atI (ns.map V.int) (at_ % (((ns.map V.int).length : Nat) : Int)) = some (.int ns[j]) := by
    rw [hj]
    refine atI_nat ?_
    rw [List.getElem?_map, List.getElem?_eq_getElem hj2]
    rfl
  refine ⟨_, rfl, _, rfl, .inl ⟨_, rfl, _, rfl, a, _, rfl, .inl hS, _, _, rfl, rfl, hl', a, _, _, _, rfl, rfl, hS, g, .inl ⟨_, rfl, _, rfl, _, _, rfl, rfl, hm, ?_⟩⟩⟩
  exact q _ (Int.emod_nonneg _ (by omega)) (Int.emod_lt_of_pos _ hm)
end
end Vk

set_option Elab.async false
set_option linter.all false
set_option maxRecDepth 100000
namespace Vk
open PySem PySem.Spec PyProof.Rows L2 RT
section
variable {P : Program} {w : World} {K : PySem.W.Frag} {mg : Str → Option Value} {base : Heap}
/-! ### the tape -/
def spTape (K : PySem.W.Frag) : Sp := fun vs H Q _ => ∃ (a : Addr) (ns : List Int) (many : Int), vs = [.ref a, .int many] ∧ SqL K H a (ns.map V.int) ∧ 0 ≤ many ∧ many ≤ 1000 ∧
  ∀ H' p ts, Same H H' → H' p = some (.lst ((ts : List Int).map V.int)) → ts.length = many.toNat → (∀ t ∈ ts, 0 ≤ t) → Q (.ref p) H'
theorem cut_front (ns : List Int) : ∃ ms : List Int, cutV (ns.map V.int) none (some 63) = ms.map V.int ∧ ms.length ≤ 63 := by
  refine ⟨ns.take (min 63 ns.length), ?_, ?_⟩
  · unfold cutV
    rw [HT.sIx_none, List.drop_zero, Nat.sub_zero, List.map_take, List.length_map]
    exact congrArg (fun z => List.take z (ns.map V.int)) (HT.sIx_nat ns.length ns.length 63)
  · rw [List.length_take]
    omega
theorem snoc_map (cs : List Int) (x : Int) : cs.map V.int ++ [.int x] = (cs ++ [x]).map V.int := by
  rw [List.map_append]
  rfl
theorem int_at {ns : List Int} {i : Int} (h0 : 0 ≤ i) (h1 : i < (ns.length : Int)) : ∃ v : Int, atI (ns.map V.int) i = some (.int v) ∧ v ∈ ns := by
  obtain ⟨j, hj⟩ : ∃ j : Nat, i = (j : Int) := ⟨_, (Int.toNat_of_nonneg h0).symm⟩
  have hj2 : j < ns.length := by omega
  refine ⟨ns[j], ?_, List.getElem_mem hj2⟩
  rw [hj]
  refine atI_nat ?_
  rw [List.getElem?_map, List.getElem?_eq_getElem hj2]
  rfl
theorem ok_tape {f : Addr} {fd : FuncData} {k : Nat} (F : Fun K "_law_tape" "_law_tape" sTape f fd) (ma : mg "abs" = none) (mm : mg "max" = none) (ml : mg "len" = none) (mr : mg "range" = none) (mi : mg "int" = none) : FnOk P w K mg base CX0 (k + 1) f fd ["script", "many"] (spTape K) := by
  refine F.ok scTape (fun vs H Q E h => ?_) (fun cdv A outer s H vs Q E hr h => ?_)
  · obtain ⟨a, ns, many, rfl, _⟩ := h
    rfl
  obtain ⟨a, ns, many, rfl, hS, m0, m1, q⟩ := h
  refine ⟨_, pss_cons (ps_set (i := 2) scTape.nd rfl (.inl rfl) (pe_lst (pa_cons pe_int pa_nil)))
    (pss_cons (ps_for PassesOwn.never rfl (pi_list (pe_slice sl_list (pv 0) po_none (po_some pe_int))) (pg_name (i := 3) scTape.nd rfl (.inl rfl))
      (pss_one (ps_expr (pe_bm PySem.F.plainAttrs_list PySem.F.slot_list_append PySem.F.type_list_append mt_append (pv 2) (pa_cons (pe_callB call_abs (by rfl) ma (by decide +kernel) (pa_cons (pv 3) pa_nil)) pa_nil)))))
    (pss_cons (ps_set (i := 4) scTape.nd rfl (.inl rfl) (pe_callB (cr_max rfl) (by rfl) mm (by decide +kernel) (pa_cons (pv 2) pa_nil)))
    (pss_cons (ps_if (pt_cmpR op_lt (pv 4) (pe_op op_pow pe_int pe_int) (nomark _)) (pss_one (ps_set (i := 4) scTape.nd rfl (.inl rfl) pe_int)) pss_nil)
    (pss_cons (ps_set (i := 5) scTape.nd rfl (.inl rfl) (pe_op op_add pe_int (pe_callB call_len_seq (by rfl) ml PySem.boot_len (pa_cons (pv 2) pa_nil))))
    (pss_cons (ps_set (i := 6) scTape.nd rfl (.inl rfl) (pe_lst pa_nil))
    (pss_cons (ps_for PassesOwn.never rfl (pi_range1 rfl mr (pa_cons (pv 1) pa_nil)) (pg_name (i := 7) scTape.nd rfl (.inl rfl))
      (pss_one (ps_if (pt_cmpR op_gt (pv 4) pe_int (nomark _))
        (pss_cons (ps_expr (pe_bm PySem.F.plainAttrs_list PySem.F.slot_list_append PySem.F.type_list_append mt_append (pv 6) (pa_cons (pe_op op_mod (pe_callTy call_int1 (by rfl) mi (by decide +kernel) (pa_cons (pv 4) pa_nil)) pe_int) pa_nil)))
        (pss_one (ps_set (i := 4) scTape.nd rfl (.inl rfl) (pe_op op_fdiv (pv 4) pe_int))))
        (pss_cons (ps_set (i := 5) scTape.nd rfl (.inl rfl) (pe_op op_mod (pe_callTy call_int1 (by rfl) mi (by decide +kernel) (pa_cons
          (pe_op op_add (pe_op op_add (pe_op op_mul (pv 5) pe_int) (pe_op op_mul (pe_ix ix_list (pv 2) (pe_op op_mod (pe_callTy call_int1 (by rfl) mi (by decide +kernel) (pa_cons (pv 7) pa_nil)) (pe_callB call_len_seq (by rfl) ml PySem.boot_len (pa_cons (pv 2) pa_nil))) (fun _ _ => rfl)) pe_int)) (pv 7)) pa_nil)) pe_int))
        (pss_one (ps_expr (pe_bm PySem.F.plainAttrs_list PySem.F.slot_list_append PySem.F.type_list_append mt_append (pv 6) (pa_cons (pe_op op_mod (pe_callTy call_int1 (by rfl) mi (by decide +kernel) (pa_cons
          (pe_op op_add (pe_op op_mul (pv 5) pe_int) (pe_op op_mul (pv 7) pe_int)) pa_nil)) pe_int) pa_nil))))))))
    (pss_one (ps_ret (pv 6))))))))), ?_⟩
  -- cells = [0]
  refine ⟨(by show 1 ≤ sizeLine; decide), fun ce hce => ?_⟩
  have S1 : Same H (upd H ce (.lst [.int 0])) := same_upd hce
  obtain ⟨ms, ems, lms⟩ := cut_front ns
  refine ⟨_, rfl, 63, rfl, a, _, rfl, S1.seq hS, fun c hc => ?_⟩
  rw [ems]
  have nce : ce ≠ c := ne_of_none upd_same hc
  have S2 : Same (upd H ce (.lst [.int 0])) (upd (upd H ce (.lst [.int 0])) c (.lst (ms.map V.int))) := same_upd hc
  refine ⟨c, rfl, ⟨_, SqL.of upd_same⟩, ?_⟩
  refine for_list (K := K) (a := c) (xs := ms.map V.int) (fun i σ H' => (∃ y3, σ = [some (.ref a), some (.int many), some (.ref ce), y3, none, none, none, none]) ∧ Same H H' ∧ H' c = some (.lst (ms.map V.int)) ∧ ∃ cs : List Int, H' ce = some (.lst (cs.map V.int)) ∧ cs.length = i + 1)
    ⟨⟨_, rfl⟩, S1.trans S2, upd_same, [0], by rw [upd_ne nce, upd_same]; rfl, rfl⟩ (fun i σ H' _ h => SqL.of h.2.2.1) (fun i x σ H' hx h => ?_) (fun σ H' h => ?_)
  · obtain ⟨⟨y3, rfl⟩, s1, hc1, cs, hcs, lcs⟩ := h
    have hi : i < ms.length := by
      have := (List.getElem?_eq_some_iff.mp hx).1
      rw [List.length_map] at this
      exact this
    rw [List.getElem?_map, List.getElem?_eq_getElem hi] at hx
    cases hx
    refine ⟨_, rfl, .inl ⟨rfl, _, SqL.of hcs⟩, _, rfl, _, rfl, ce, _, _, rfl, rfl, hcs, small1000 (by rw [List.length_map]; omega), ?_⟩
    rw [snoc_map]
    refine ⟨⟨_, rfl⟩, same_skip s1 hce, ?_, _, upd_same, ?_⟩
    · rw [upd_ne nce.symm]
      exact hc1
    · rw [List.length_append, lcs]
      rfl
  obtain ⟨⟨y3, rfl⟩, s1, hc1, cs, hcs, lcs⟩ := h
  rw [List.length_map] at lcs
  -- big = max(cells)
  refine ⟨_, rfl, ce, cs, rfl, SqL.of hcs, by omega, fun big _ _ => ?_⟩
  refine ⟨_, rfl, 10, 18, rfl, rfl, ⟨by decide, by decide, by decide⟩, _, _, rfl, rfl, _, rfl, ?_⟩
  have lcs' : (((cs.map V.int).length : Nat) : Int) = (cs.length : Int) := by rw [List.length_map]
  refine ite2 (fun c1 => ?_) (fun c1 => ?_)
  all_goals
    refine ⟨_, rfl, ce, _, rfl, .inl (SqL.of hcs), _, _, rfl, rfl, ?_⟩
    refine ⟨Nat.zero_le _, fun tp htp => ?_⟩
    have ntp : ce ≠ tp := ne_of_none hcs htp
    refine ⟨_, rfl, many, rfl, by omega, by omega, ?_⟩
    refine for_range (n := many.toNat) (fun i σ H' => ∃ bg vl y7 ts, σ = [some (.ref a), some (.int many), some (.ref ce), y3, some (.int bg), some (.int vl), some (.ref tp), y7] ∧ Same H H' ∧ H' ce = some (.lst (cs.map V.int)) ∧ H' tp = some (.lst ((ts : List Int).map V.int)) ∧ ts.length = i ∧ ∀ t ∈ ts, 0 ≤ t)
      ⟨_, _, none, [], rfl, s1.trans (same_upd htp), by rw [upd_ne ntp]; exact hcs, upd_same, rfl, fun t ht => by cases ht⟩ (fun i σ H' hi h => ?_) (fun σ H' h => ?_)
    · obtain ⟨bg, vl, y7, ts, rfl, s2, hcs2, hts, lts, nts⟩ := h
      have lt1 : (ts.map V.int).length < sizeLine := small1000 (by rw [List.length_map]; omega)
      have fresh : H tp = none := s1.free htp
      have nn : ∀ z : Int, ∀ t ∈ ts ++ [z], 0 ≤ z → 0 ≤ t := fun z t ht hz => by
        rcases List.mem_append.mp ht with h | h
        · exact nts t h
        · rw [List.mem_singleton.mp h]
          exact hz
      refine ⟨_, rfl, _, _, rfl, rfl, _, rfl, ite2 (fun c2 => ?_) (fun c2 => ?_)⟩
      · refine ⟨_, rfl, .inl ⟨rfl, _, SqL.of hts⟩, _, rfl, .inl ⟨_, rfl, _, _, rfl, rfl, (by show (0 : Int) < 1009; decide), tp, _, _, rfl, rfl, hts, lt1, ?_⟩⟩
        rw [snoc_map]
        refine ⟨_, rfl, _, _, rfl, rfl, ⟨by decide, by decide⟩, ?_⟩
        refine ⟨_, _, _, _, rfl, same_skip s2 fresh, by rw [upd_ne ntp]; exact hcs2, upd_same, by rw [List.length_append, lts]; rfl, fun t ht => nn _ t ht (Int.emod_nonneg _ (by decide))⟩
      · have pos : 0 < (((cs.map V.int).length : Nat) : Int) := by omega
        obtain ⟨v, hv, _⟩ := int_at (ns := cs) (i := (0 + (i : Int)) % (((cs.map V.int).length : Nat) : Int)) (Int.emod_nonneg _ (by omega)) (by rw [← lcs']; exact Int.emod_lt_of_pos _ pos)
        refine ⟨_, rfl, _, _, rfl, rfl, .inr ⟨by decide, by decide⟩, _, rfl, _, rfl, .inl ⟨_, rfl, _, rfl, ce, _, rfl, .inl (SqL.of hcs2), _, _, rfl, rfl, pos, ce, _, _, _, rfl, rfl, SqL.of hcs2, hv, _, _, rfl, rfl, .inr ⟨by decide, by decide⟩, _, _, rfl, rfl, ?_⟩⟩
        refine ⟨_, rfl, _, _, rfl, rfl, .inl ⟨_, rfl, _, _, rfl, rfl, (by show (0 : Int) < 2147483647; decide), ?_⟩⟩
        refine ⟨_, rfl, .inl ⟨rfl, _, SqL.of hts⟩, _, rfl, _, _, rfl, rfl, .inr ⟨by decide, by decide⟩, _, rfl, _, _, rfl, rfl, .inr ⟨by decide, by decide⟩, _, _, rfl, rfl, .inl ⟨_, rfl, _, _, rfl, rfl, (by show (0 : Int) < 1000003; decide), tp, _, _, rfl, rfl, hts, lt1, ?_⟩⟩
        rw [snoc_map]
        refine ⟨_, _, _, _, rfl, same_skip s2 fresh, by rw [upd_ne ntp]; exact hcs2, upd_same, by rw [List.length_append, lts]; rfl, fun t ht => nn _ t ht (Int.emod_nonneg _ (by decide))⟩
    · obtain ⟨bg, vl, y7, ts, rfl, s2, hcs2, hts, lts, nts⟩ := h
      exact ⟨_, rfl, q _ _ ts s2 hts lts nts⟩
end
end Vk

set_option Elab.async false
set_option linter.all false
set_option maxRecDepth 100000
namespace Vk
open PySem PySem.Spec PyProof.Rows L2 RT
theorem zz (n : Nat) (h : n ≤ 1000 := by decide) : n ≤ sizeLine := Nat.le_of_lt (small1000 h)
theorem da_nil {H : Hp} {n : Nat} : ∀ v ∈ ([] : List V), DOk H n v := fun v h => by cases h
theorem da_cons {H : Hp} {n : Nat} {x : V} {r : List V} (h : DOk H n x) (t : ∀ v ∈ r, DOk H n v) : ∀ v ∈ x :: r, DOk H n v := fun v hv => by
  rcases List.mem_cons.mp hv with rfl | h'
  · exact h
  · exact t v h'
theorem dnew {H : Hp} {p : Addr} {n : Nat} {vs : List V} (hp : H p = none) (h : ∀ v ∈ vs, DOk H n v) : DOk (upd H p (.tup vs)) (n + 1) (.ref p) := .tup upd_same fun v hv => (h v hv).mono (ST.same (same_upd hp))
theorem dkeep {H : Hp} {p : Addr} {n : Nat} {v : V} {o : HO} (hp : H p = none) (h : DOk H n v) : DOk (upd H p o) n v := h.mono (ST.same (same_upd hp))
theorem ks {H : Hp} {n : Nat} (x : Str) (h : (PyData.str x).canLay0 = true := by decide +kernel) : DOk H n (.str x) := .str h
abbrev strOk' (x : Str) : Prop := (PyData.str x).canLay0 = true
section
variable {P : Program} {w : World} {K : PySem.W.Frag} {mg : Str → Option Value} {base : Heap}
def spEntry (K : PySem.W.Frag) (b : Nat) : Sp := fun vs H Q _ => ∃ (T : Addr) (ts : List Int) (at_ : Int) (l : Nat), vs = [.ref T, .int at_, .int (l : Int)] ∧ l < b ∧ SqL K H T (ts.map V.int) ∧ 0 < ts.length ∧
  ∀ H' r (e : E) (at' : Int), Same H H' → H' r = some (.tup [.ref e.addr, .int at']) → Rep H' (5 + 2 * l) e → Q (.ref r) H'
def spEntries (K : PySem.W.Frag) (b : Nat) : Sp := fun vs H Q _ => ∃ (T : Addr) (ts : List Int) (at_ : Int) (l : Nat), vs = [.ref T, .int at_, .int (l : Int)] ∧ l < b ∧ SqL K H T (ts.map V.int) ∧ 0 < ts.length ∧
  ∀ H' r a (es : List E) (at' : Int), Same H H' → H' r = some (.tup [.ref a, .int at']) → Reps H' (5 + 2 * l) a es → es.length ≤ 6 → Q (.ref r) H'
theorem pick_cases {r n : Int} (h0 : 0 ≤ r) (h1 : r < n) (hn : n ≤ 8) : r = 0 ∨ r = 1 ∨ r = 2 ∨ r = 3 ∨ r = 4 ∨ r = 5 ∨ r = 6 ∨ r = 7 := by omega
theorem name6 {r : Int} (h0 : 0 ≤ r) (h1 : r < 6) : ∃ nm : Str, atI [V.str "a", .str "A", .str "list", .str "B", .str "x", .str "C1"] r = some (.str nm) ∧ strOk' nm := by
  rcases pick_cases h0 h1 (by decide) with rfl | rfl | rfl | rfl | rfl | rfl | h | h
  · exact ⟨_, atI_nat (j := 0) rfl, by decide +kernel⟩
  · exact ⟨_, atI_nat (j := 1) rfl, by decide +kernel⟩
  · exact ⟨_, atI_nat (j := 2) rfl, by decide +kernel⟩
  · exact ⟨_, atI_nat (j := 3) rfl, by decide +kernel⟩
  · exact ⟨_, atI_nat (j := 4) rfl, by decide +kernel⟩
  · exact ⟨_, atI_nat (j := 5) rfl, by decide +kernel⟩
  · omega
  · omega
/-- a leaf is handed back -/
theorem fin_leaf {H H4 : Hp} {p4 p5 : Addr} {kd nm : Str} {rest : List V} {l n : Nat} {at' : Int} {Q : VK} (q : ∀ H' r (e : E) (at' : Int), Same H H' → H' r = some (.tup [.ref e.addr, .int at']) → Rep H' (5 + 2 * l) e → Q (.ref r) H')
    (S : Same H H4) (h4 : H4 p4 = some (.tup (.str kd :: .str nm :: rest))) (hk : kd ∈ kinds) (hd : DOk H4 n (.ref p4)) (hn : n ≤ 5) (h5 : H4 p5 = none) : Q (.ref p5) (upd H4 p5 (.tup [.ref p4, .int at'])) :=
  q _ _ (.leaf p4 kd nm) at' (S.trans (same_upd h5)) upd_same (.leaf (ST.same (same_upd h5) _ _ h4) hk ((hd.up (by omega)).mono (ST.same (same_upd h5))))
theorem ok_entry {f g g2 : Addr} {fd gd gd2 : FuncData} {k b : Nat} (F : Fun K "_law_entry" "_law_entry" sEntry f fd) (h1k : 1 ≤ k)
    (G : FnOk P w K mg base CX0 1 g gd ["tape", "at", "many"] (spPick K)) (bG : Binds K gd ["tape", "at", "many"] []) (kG : PySem.W.keepIn K (.ref g) = true) (mG : mg "_law_pick" = some (.ref g))
    (G2 : FnOk P w K mg base CX0 k g2 gd2 ["tape", "at", "level"] (spEntries K b)) (bG2 : Binds K gd2 ["tape", "at", "level"] []) (kG2 : PySem.W.keepIn K (.ref g2) = true) (mG2 : mg "_law_entries" = some (.ref g2)) :
    FnOk P w K mg base CX0 (k + 1) f fd ["tape", "at", "level"] (spEntry K (b + 1)) := by
  refine F.ok scEntry (fun vs H Q E h => ?_) (fun cdv A outer s H vs Q E hr h => ?_)
  · obtain ⟨T, ts, at_, l, rfl, _⟩ := h
    rfl
  obtain ⟨T, ts, at_, l, rfl, hl, hT, hp, q⟩ := h
  have hr1 := hr.mono h1k
  refine ⟨_, pss_cons (ps_set (i := 3) scEntry.nd rfl (.inl rfl) (pe_ix ix_tup (pe_tup (pa_cons pe_str (pa_cons pe_str (pa_cons pe_str (pa_cons pe_str (pa_cons pe_str (pa_cons pe_str pa_nil))))))) (pe_call G hr1 rfl mG kG bG .nil pass0 (pa_cons (pv 0) (pa_cons (pv 1) (pa_cons pe_int pa_nil)))) (fun _ _ => rfl)))
      (pss_cons (ps_set (i := 4) scEntry.nd rfl (.inl rfl) (pe_call G hr1 rfl mG kG bG .nil pass0 (pa_cons (pv 0) (pa_cons (pe_op op_add (pv 1) pe_int) (pa_cons pe_int pa_nil)))))
      (pss_cons (ps_if (pt_cmpR op_eq (pv 4) pe_int (nomark _)) (pss_one (ps_ret (pe_tup (pa_cons (pe_tup (pa_cons pe_str (pa_cons (pv 3) (pa_cons (pe_tup (pa_cons pe_int (pa_cons (pe_tup (pa_cons pe_str (pa_cons (pv 1) (pa_cons (pe_tup pa_nil) pa_nil)))) pa_nil))) pa_nil)))) (pa_cons (pe_op op_add (pv 1) pe_int) pa_nil))))) pss_nil)
      (pss_cons (ps_if (pt_cmpR op_eq (pv 4) pe_int (nomark _)) (pss_one (ps_ret (pe_tup (pa_cons (pe_tup (pa_cons pe_str (pa_cons (pv 3) (pa_cons pe_int (pa_cons pe_non (pa_cons (pe_tup (pa_cons pe_str (pa_cons (pv 1) (pa_cons (pe_tup pa_nil) pa_nil)))) (pa_cons pe_int (pa_cons (pe_tup (pa_cons (pe_tup (pa_cons (pv 3) (pa_cons pe_bl pa_nil))) pa_nil)) pa_nil)))))))) (pa_cons (pe_op op_add (pv 1) pe_int) pa_nil))))) pss_nil)
      (pss_cons (ps_if (pt_cmpR op_eq (pv 4) pe_int (nomark _)) (pss_one (ps_ret (pe_tup (pa_cons (pe_tup (pa_cons pe_str (pa_cons (pv 3) (pa_cons (pe_tup (pa_cons pe_str (pa_cons (pv 1) (pa_cons (pe_tup pa_nil) pa_nil)))) pa_nil)))) (pa_cons (pe_op op_add (pv 1) pe_int) pa_nil))))) pss_nil)
      (pss_cons (ps_if (pt_cmpR op_eq (pv 4) pe_int (nomark _)) (pss_one (ps_ret (pe_tup (pa_cons (pe_tup (pa_cons pe_str (pa_cons (pv 3) (pa_cons pe_int (pa_cons (pe_tup (pa_cons pe_str (pa_cons (pv 1) (pa_cons (pe_tup pa_nil) pa_nil)))) pa_nil))))) (pa_cons (pe_op op_add (pv 1) pe_int) pa_nil))))) pss_nil)
      (pss_cons (ps_if (pt_cmpR op_eq (pv 4) pe_int (nomark _)) (pss_one (ps_ret (pe_tup (pa_cons (pe_tup (pa_cons pe_str (pa_cons (pv 3) (pa_cons (pe_tup (pa_cons pe_str (pa_cons (pv 1) (pa_cons (pe_tup pa_nil) pa_nil)))) pa_nil)))) (pa_cons (pe_op op_add (pv 1) pe_int) pa_nil))))) pss_nil)
      (pss_cons (ps_if (pt_cmpR op_eq (pv 4) pe_int (nomark _)) (pss_one (ps_ret (pe_tup (pa_cons (pe_ix ix_tup (pe_tup (pa_cons (pe_tup (pa_cons pe_str (pa_cons (pv 3) (pa_cons (pe_tup (pa_cons (pe_tup pa_nil) (pa_cons (pe_tup pa_nil) pa_nil))) (pa_cons (pe_tup (pa_cons (pv 1) pa_nil)) (pa_cons (pe_tup pa_nil) pa_nil)))))) (pa_cons (pe_tup (pa_cons pe_str (pa_cons (pv 3) (pa_cons (pe_tup (pa_cons (pe_tup (pa_cons (pv 1) pa_nil)) (pa_cons (pe_tup pa_nil) pa_nil))) pa_nil)))) pa_nil))) (pe_call G hr1 rfl mG kG bG .nil pass0 (pa_cons (pv 0) (pa_cons (pe_op op_add (pv 1) pe_int) (pa_cons pe_int pa_nil)))) (fun _ _ => rfl)) (pa_cons (pe_op op_add (pv 1) pe_int) pa_nil))))) pss_nil)
      (pss_cons (ps_if (pt_cmpR op_eq (pv 2) pe_int (nomark _)) (pss_one (ps_ret (pe_tup (pa_cons (pe_tup (pa_cons pe_str (pa_cons (pv 3) (pa_cons (pe_tup (pa_cons pe_int (pa_cons (pe_tup (pa_cons pe_str (pa_cons (pv 1) (pa_cons (pe_tup pa_nil) pa_nil)))) pa_nil))) pa_nil)))) (pa_cons (pe_op op_add (pv 1) pe_int) pa_nil))))) pss_nil)
      (pss_cons (ps_asg (pe_call G2 hr rfl mG2 kG2 bG2 .nil pass0 (pa_cons (pv 0) (pa_cons (pe_op op_add (pv 1) pe_int) (pa_cons (pe_op op_sub (pv 2) pe_int) pa_nil)))) (pg_tup rfl (pgs_cons (pg_name (i := 5) scEntry.nd rfl (.inl rfl)) (pgs_cons (pg_name (i := 1) scEntry.nd rfl (.inl rfl)) pgs_nil))))
      (pss_one (ps_ret (pe_tup (pa_cons (pe_tup (pa_cons pe_str (pa_cons (pv 3) (pa_cons (pv 5) pa_nil)))) (pa_cons (pv 1) pa_nil)))))))))))))), ?_⟩
  refine ⟨zz 6, fun p0 n0 => ?_⟩
  have S0 : Same H _ := same_upd n0 (o := .tup [.str "a", .str "A", .str "list", .str "B", .str "x", .str "C1"])
  refine ⟨_, rfl, _, rfl, T, ts, _, _, rfl, S0.seq hT, hp, by decide, fun r r0 r1 => ?_⟩
  obtain ⟨nm, e1, ok⟩ := name6 r0 r1
  refine ⟨p0, _, _, _, rfl, rfl, SqT.of upd_same, e1, ?_⟩
  generalize hH0 : upd H p0 (.tup [.str "a", .str "A", .str "list", .str "B", .str "x", .str "C1"]) = H0 at S0
  refine ⟨_, rfl, _, rfl, _, _, rfl, rfl, T, ts, _, _, rfl, S0.seq hT, hp, by decide, fun kd _ _ => ?_⟩
  have leaf4 : ∀ D : Ends, D.rt = Q → tRet (tTup (tCons (tTup (tCons (tC (.str "val")) (tCons (tVar 3) (tCons (tTup (tCons (tC (.int 0)) (tCons (tTup (tCons (tC (.str "c")) (tCons (tVar 1) (tCons (tTup tNil) tNil)))) tNil))) tNil)))) (tCons (tOp (rI0 fun i j => .int (i + j)) (tVar 1) (tC (.int 2))) tNil))) D
      [some (.ref T), some (.int at_), some (.int (l : Int)), some (.str nm), some (.int kd), none] H0 := by
    intro D hD
    refine ⟨_, rfl, _, rfl, zz 0, fun p1 n1 => ⟨zz 3, fun p2 n2 => ⟨zz 2, fun p3 n3 => ⟨zz 3, fun p4 n4 => ⟨_, rfl, _, _, rfl, rfl, zz 2, fun p5 n5 => ?_⟩⟩⟩⟩⟩
    rw [hD]
    have d1 := dnew (n := 0) n1 da_nil
    have d2 := dnew n2 (da_cons (ks "c") (da_cons (.int at_) (da_cons d1 da_nil)))
    have d3 := dnew n3 (da_cons (.int 0) (da_cons d2 da_nil))
    have d4 := dnew n4 (da_cons (ks "val") (da_cons (.str ok) (da_cons d3 da_nil)))
    exact fin_leaf q (S0.trans ((same_upd n1).trans ((same_upd n2).trans ((same_upd n3).trans (same_upd n4))))) upd_same (by decide +kernel) d4 (by decide) n5
  refine ⟨_, rfl, rfl, _, rfl, ite2 (fun c => leaf4 _ rfl) (fun _ => ?_)⟩
  refine ⟨_, rfl, rfl, _, rfl, ite2 (fun c => ?_) (fun _ => ?_)⟩
  · refine ⟨_, rfl, _, rfl, zz 0, fun p1 n1 => ⟨zz 3, fun p2 n2 => ⟨_, rfl, zz 2, fun p3 n3 => ⟨zz 1, fun p4 n4 => ⟨zz 7, fun p5 n5 => ⟨_, rfl, _, _, rfl, rfl, zz 2, fun p6 n6 => ?_⟩⟩⟩⟩⟩⟩
    have d1 := dnew (n := 0) n1 da_nil
    have d2 := dnew n2 (da_cons (ks "c") (da_cons (.int at_) (da_cons d1 da_nil)))
    have d3 := dnew (n := 0) n3 (da_cons (.str ok) (da_cons (.bl false) da_nil))
    have d4 := dnew n4 (da_cons d3 da_nil)
    have d5 := dnew n5 (da_cons (ks "con") (da_cons (.str ok) (da_cons (.int 0) (da_cons .non (da_cons (dkeep n4 (dkeep n3 d2)) (da_cons (.int 0) (da_cons d4 da_nil)))))))
    exact fin_leaf q (S0.trans ((same_upd n1).trans ((same_upd n2).trans ((same_upd n3).trans ((same_upd n4).trans (same_upd n5)))))) upd_same (by decide +kernel) d5 (by decide) n6
  refine ⟨_, rfl, rfl, _, rfl, ite2 (fun c => ?_) (fun _ => ?_)⟩
  · refine ⟨_, rfl, _, rfl, zz 0, fun p1 n1 => ⟨zz 3, fun p2 n2 => ⟨zz 3, fun p4 n4 => ⟨_, rfl, _, _, rfl, rfl, zz 2, fun p5 n5 => ?_⟩⟩⟩⟩
    have d1 := dnew (n := 0) n1 da_nil
    have d2 := dnew n2 (da_cons (ks "c") (da_cons (.int at_) (da_cons d1 da_nil)))
    have d4 := dnew n4 (da_cons (ks "exn") (da_cons (.str ok) (da_cons d2 da_nil)))
    exact fin_leaf q (S0.trans ((same_upd n1).trans ((same_upd n2).trans (same_upd n4)))) upd_same (by decide +kernel) d4 (by decide) n5
  refine ⟨_, rfl, rfl, _, rfl, ite2 (fun c => ?_) (fun _ => ?_)⟩
  · refine ⟨_, rfl, _, rfl, zz 0, fun p1 n1 => ⟨zz 3, fun p2 n2 => ⟨zz 4, fun p4 n4 => ⟨_, rfl, _, _, rfl, rfl, zz 2, fun p5 n5 => ?_⟩⟩⟩⟩
    have d1 := dnew (n := 0) n1 da_nil
    have d2 := dnew n2 (da_cons (ks "c") (da_cons (.int at_) (da_cons d1 da_nil)))
    have d4 := dnew n4 (da_cons (ks "shape") (da_cons (.str ok) (da_cons (.int 0) (da_cons d2 da_nil))))
    exact fin_leaf q (S0.trans ((same_upd n1).trans ((same_upd n2).trans (same_upd n4)))) upd_same (by decide +kernel) d4 (by decide) n5
  refine ⟨_, rfl, rfl, _, rfl, ite2 (fun c => ?_) (fun _ => ?_)⟩
  · refine ⟨_, rfl, _, rfl, zz 0, fun p1 n1 => ⟨zz 3, fun p2 n2 => ⟨zz 3, fun p4 n4 => ⟨_, rfl, _, _, rfl, rfl, zz 2, fun p5 n5 => ?_⟩⟩⟩⟩
    have d1 := dnew (n := 0) n1 da_nil
    have d2 := dnew n2 (da_cons (ks "c") (da_cons (.int at_) (da_cons d1 da_nil)))
    have d4 := dnew n4 (da_cons (ks "name") (da_cons (.str ok) (da_cons d2 da_nil)))
    exact fin_leaf q (S0.trans ((same_upd n1).trans ((same_upd n2).trans (same_upd n4)))) upd_same (by decide +kernel) d4 (by decide) n5
  refine ⟨_, rfl, rfl, _, rfl, ite2 (fun c => ?_) (fun _ => ?_)⟩
  · refine ⟨_, rfl, zz 0, fun p1 n1 => ⟨zz 0, fun p2 n2 => ⟨zz 2, fun p3 n3 => ⟨_, rfl, zz 1, fun p4 n4 => ⟨zz 0, fun p5 n5 => ⟨zz 5, fun p6 n6 => ⟨_, rfl, _, rfl, zz 1, fun p7 n7 => ⟨zz 0, fun p8 n8 => ⟨zz 2, fun p9 n9 => ⟨zz 3, fun pa na => ⟨zz 2, fun pb nb => ?_⟩⟩⟩⟩⟩⟩⟩⟩⟩⟩⟩
    have d1 := dnew (n := 0) n1 da_nil
    have d2 := dnew (n := 0) n2 da_nil
    have d3 := dnew n3 (da_cons (dkeep n2 d1) (da_cons d2 da_nil))
    have d4 := dnew (n := 0) n4 (da_cons (.int at_) da_nil)
    have d5 := dnew (n := 0) n5 da_nil
    have d6 := dnew n6 (da_cons (ks "functor") (da_cons (.str ok) (da_cons (dkeep n5 (dkeep n4 d3)) (da_cons ((dkeep n5 d4).up (by decide)) (da_cons (d5.up (by decide)) da_nil)))))
    have d7 := dnew (n := 0) n7 (da_cons (.int at_) da_nil)
    have d8 := dnew (n := 0) n8 da_nil
    have d9 := dnew n9 (da_cons (dkeep n8 d7) (da_cons d8 da_nil))
    have da := dnew na (da_cons (ks "signature") (da_cons (.str ok) (da_cons d9 da_nil)))
    have Sa := (same_upd n1 (o := .tup [])).trans ((same_upd n2 (o := .tup [])).trans ((same_upd n3 (o := .tup [.ref p1, .ref p2])).trans ((same_upd n4 (o := .tup [.int at_])).trans ((same_upd n5 (o := .tup [])).trans (same_upd n6 (o := .tup [.str "functor", .str nm, .ref p3, .ref p4, .ref p5]))))))
    have Sb := (same_upd n7 (o := .tup [.int at_])).trans ((same_upd n8 (o := .tup [])).trans ((same_upd n9 (o := .tup [.ref p7, .ref p8])).trans ((same_upd na (o := .tup [.str "signature", .str nm, .ref p9])).trans (same_upd nb (o := .tup [.ref p6, .ref pa])))))
    have S9 := S0.trans (Sa.trans Sb)
    refine ⟨_, rfl, _, rfl, _, _, rfl, rfl, T, ts, _, _, rfl, S9.seq hT, hp, by decide, fun r r0 r1 => ?_⟩
    rcases pick_cases r0 r1 (by decide) with rfl | rfl | h | h | h | h | h | h
    · refine ⟨pb, _, _, _, rfl, rfl, SqT.of upd_same, atI_nat (j := 0) rfl, _, rfl, _, _, rfl, rfl, zz 2, fun pc nc => ?_⟩
      exact fin_leaf q S9 (Sb _ _ upd_same) (by decide +kernel) (d6.mono (ST.same Sb)) (by decide) nc
    · refine ⟨pb, _, _, _, rfl, rfl, SqT.of upd_same, atI_nat (j := 1) rfl, _, rfl, _, _, rfl, rfl, zz 2, fun pc nc => ?_⟩
      exact fin_leaf q S9 (same_upd nb _ _ upd_same) (by decide +kernel) (dkeep nb da) (by decide) nc
    all_goals omega
  refine ⟨_, rfl, rfl, _, rfl, ite2 (fun c => leaf4 _ rfl) (fun c => ?_)⟩
  have l0 : l ≠ 0 := fun z => c (by rw [z]; rfl)
  obtain ⟨m, rfl⟩ : ∃ m, l = m + 1 := ⟨l - 1, by omega⟩
  refine ⟨_, rfl, _, rfl, _, _, rfl, rfl, _, rfl, _, _, rfl, rfl, T, ts, at_ + 2, m, ?_, by omega, S0.seq hT, hp, fun H1 r a es at' S1 hr1 R hes => ?_⟩
  · show [V.ref T, V.int (at_ + 2), V.int (((m + 1 : Nat) : Int) - 1)] = _
    rw [show (((m + 1 : Nat) : Int) - 1) = (m : Int) by omega]
  refine ⟨r, _, rfl, SqT.of hr1, rfl, _, _, rfl, _, _, rfl, rfl, ?_⟩
  refine ⟨_, rfl, _, rfl, zz 3, fun p1 n1 => ⟨_, rfl, zz 2, fun p2 n2 => ?_⟩⟩
  have Sx : Same H1 _ := (same_upd n1 (o := .tup [.str "module", .str nm, .ref a])).trans (same_upd n2 (o := .tup [.ref p1, .int at']))
  refine q _ _ (.mod p1 nm a es) at' (S0.trans (S1.trans Sx)) upd_same ?_
  exact .mod (same_upd n2 _ _ upd_same) (Sx _ _ R.at_) ok R.len (fun e he => (R.all e he).mono (ST.same Sx))
theorem ok_entries {f g g2 : Addr} {fd gd gd2 : FuncData} {k b : Nat} (F : Fun K "_law_entries" "_law_entries" sEntries f fd) (h1k : 1 ≤ k)
    (G : FnOk P w K mg base CX0 1 g gd ["tape", "at", "many"] (spPick K)) (bG : Binds K gd ["tape", "at", "many"] []) (kG : PySem.W.keepIn K (.ref g) = true) (mG : mg "_law_pick" = some (.ref g))
    (G2 : FnOk P w K mg base CX0 k g2 gd2 ["tape", "at", "level"] (spEntry K b)) (bG2 : Binds K gd2 ["tape", "at", "level"] []) (kG2 : PySem.W.keepIn K (.ref g2) = true) (mG2 : mg "_law_entry" = some (.ref g2)) (mr : mg "range" = none) (mt : mg "tuple" = none) :
    FnOk P w K mg base CX0 (k + 1) f fd ["tape", "at", "level"] (spEntries K b) := by
  refine F.ok scEntries (fun vs H Q E h => ?_) (fun cdv A outer s H vs Q E hr h => ?_)
  · obtain ⟨T, ts, at_, l, rfl, _⟩ := h
    rfl
  obtain ⟨T, ts, at_, l, rfl, hl, hT, hp, q⟩ := h
  have hr1 := hr.mono h1k
  refine ⟨_, pss_cons (ps_set (i := 3) scEntries.nd rfl (.inl rfl) (pe_lst pa_nil))
      (pss_cons (ps_set (i := 4) scEntries.nd rfl (.inl rfl) (pe_call G hr1 rfl mG kG bG .nil pass0 (pa_cons (pv 0) (pa_cons (pv 1) (pa_cons pe_int pa_nil)))))
      (pss_cons (ps_set (i := 1) scEntries.nd rfl (.inl rfl) (pe_op op_add (pv 1) pe_int))
      (pss_cons (ps_for PassesOwn.never rfl (pi_range1 rfl mr (pa_cons (pv 4) pa_nil)) (pg_name (i := 5) scEntries.nd rfl (.inl rfl)) (pss_cons (ps_asg (pe_call G2 hr rfl mG2 kG2 bG2 .nil pass0 (pa_cons (pv 0) (pa_cons (pv 1) (pa_cons (pv 2) pa_nil)))) (pg_tup rfl (pgs_cons (pg_name (i := 6) scEntries.nd rfl (.inl rfl)) (pgs_cons (pg_name (i := 1) scEntries.nd rfl (.inl rfl)) pgs_nil))))
      (pss_one (ps_expr (pe_bm PySem.F.plainAttrs_list PySem.F.slot_list_append PySem.F.type_list_append mt_append (pv 3) (pa_cons (pv 6) pa_nil))))))
      (pss_one (ps_ret (pe_tup (pa_cons (pe_callTy call_tuple_of (by rfl) mt (by decide +kernel) (pa_cons (pv 3) pa_nil)) (pa_cons (pv 1) pa_nil)))))))), ?_⟩
  refine ⟨Nat.zero_le _, fun L nL => ?_⟩
  have S0 : Same H (upd H L (.lst [])) := same_upd nL
  refine ⟨_, rfl, _, rfl, T, ts, _, _, rfl, S0.seq hT, hp, by decide, fun many m0 m1 => ?_⟩
  refine ⟨_, rfl, _, _, rfl, rfl, ?_⟩
  refine ⟨_, rfl, many, rfl, by omega, by omega, ?_⟩
  refine for_range (n := many.toNat) (fun i σ H' => ∃ at' y5 y6 es, σ = [some (.ref T), some (.int at'), some (.int (l : Int)), some (.ref L), some (.int many), y5, y6] ∧ Same H H' ∧ H' L = some (.lst (refs es)) ∧ es.length = i ∧ ∀ e ∈ es, Rep H' (5 + 2 * l) e)
    ⟨_, _, _, [], rfl, S0, upd_same, rfl, fun e he => by cases he⟩ (fun i σ H' hi h => ?_) (fun σ H' h => ?_)
  · obtain ⟨at', y5, y6, es, rfl, S1, hL, les, he⟩ := h
    refine ⟨_, rfl, _, rfl, _, rfl, T, ts, at', l, rfl, hl, S1.seq hT, hp, fun H2 r e at2 S2 hr2 R => ?_⟩
    refine ⟨r, _, rfl, SqT.of hr2, rfl, _, _, rfl, _, _, rfl, rfl, ?_⟩
    have hL2 := S2 _ _ hL
    refine ⟨_, rfl, .inl ⟨rfl, _, SqL.of hL2⟩, _, rfl, L, _, _, rfl, rfl, hL2, small1000 (by rw [refs_len]; omega), ?_⟩
    have X1 : ST H2 (upd H2 L (.lst (refs es ++ [.ref e.addr]))) := ST.lst hL2 _
    refine ⟨at2, _, _, es ++ [e], rfl, same_skip (S1.trans S2) nL, ?_, ?_, fun e' he' => ?_⟩
    · rw [upd_same]
      unfold refs
      rw [List.map_append]
      rfl
    · rw [List.length_append, les]
      rfl
    · rcases List.mem_append.mp he' with h | h
      · exact ((he e' h).mono (ST.same S2)).mono X1
      · rw [List.mem_singleton.mp h]
        exact R.mono X1
  · obtain ⟨at', y5, y6, es, rfl, S1, hL, les, he⟩ := h
    refine ⟨_, rfl, L, _, rfl, .inl ⟨SqL.of hL, fun p np => ?_⟩⟩
    refine ⟨_, rfl, zz 2, fun r nr => ?_⟩
    have Sx : Same H' _ := (same_upd np (o := .tup (refs es))).trans (same_upd nr (o := .tup [.ref p, .int at']))
    refine q _ _ p es at' (S1.trans Sx) upd_same ⟨same_upd nr _ _ upd_same, fun e h => (he e h).mono (ST.same Sx), by omega⟩ (by omega)
/-- nothing can be asked with no level -/
theorem none_left {f : Addr} {fd : FuncData} : FnOk P w K mg base CX0 1 f fd ["tape", "at", "level"] (spEntries K 0) := by
  have no : ∀ vs H Q E, ¬ spEntries K 0 vs H Q E := fun vs H Q E h => by
    obtain ⟨T, ts, at_, l, _, h, _⟩ := h
    omega
  exact ⟨fun vs H Q E h => absurd h (no vs H Q E), fun A outer s H args us vs Q E _ _ _ _ h => absurd h (no vs H Q E)⟩
theorem all_levels {f1 f2 g : Addr} {d1 d2 gd : FuncData} (F1 : Fun K "_law_entry" "_law_entry" sEntry f1 d1) (b1 : Binds K d1 ["tape", "at", "level"] []) (m1 : mg "_law_entry" = some (.ref f1))
    (F2 : Fun K "_law_entries" "_law_entries" sEntries f2 d2) (b2 : Binds K d2 ["tape", "at", "level"] []) (m2 : mg "_law_entries" = some (.ref f2))
    (G : FnOk P w K mg base CX0 1 g gd ["tape", "at", "many"] (spPick K)) (bG : Binds K gd ["tape", "at", "many"] []) (kG : PySem.W.keepIn K (.ref g) = true) (mG : mg "_law_pick" = some (.ref g)) (mr : mg "range" = none) (mt : mg "tuple" = none) :
    ∀ b : Nat, FnOk P w K mg base CX0 (2 * b + 1) f2 d2 ["tape", "at", "level"] (spEntries K b)
  | 0 => none_left
  | b + 1 => by
    have ih := all_levels F1 b1 m1 F2 b2 m2 G bG kG mG mr mt b
    have h1 := ok_entry F1 (by omega) G bG kG mG ih b2 F2.kp m2
    exact ok_entries F2 (by omega) G bG kG mG h1 b1 F1.kp m1 mr mt
end
end Vk

set_option Elab.async false
set_option linter.all false
set_option maxRecDepth 100000
namespace Vk
open PySem PySem.Spec PyProof.Rows L2 RT
theorem Rep.up {H : Hp} {n : Nat} {e : E} (h : Rep H n e) : ∀ {m : Nat}, n ≤ m → Rep H m e := by
  induction h with
  | leaf h hk hd => exact fun hm => .leaf h hk (hd.up hm)
  | @mod n p name q es h hq hn hl he ih =>
    intro m hm
    obtain ⟨k, rfl⟩ : ∃ k, m = k + 2 := ⟨m - 2, by omega⟩
    exact .mod h hq hn hl (fun e h' => ih e h' (by omega))
theorem Reps.up {H : Hp} {n m : Nat} {a : Addr} {es : List E} (h : Reps H n a es) (hm : n ≤ m) : Reps H m a es := ⟨h.at_, fun e he => (h.all e he).up hm, h.len⟩
theorem Rep.sub {H : Hp} {n : Nat} {e : E} (h : Rep H n e) : ∀ e' ∈ e.sub, Rep H n e' := by
  cases h with
  | leaf h hk hd => exact fun e' h' => by cases h'
  | mod h hq hn hl he => exact fun e' h' => (he e' h').up (by omega)
theorem dueN_rep {H : Hp} {n : Nat} {space z : Str} : ∀ (ns : List Str) (es : List E) (e : E), (∀ x ∈ es, Rep H n x) → dueN space es ns z = some e → Rep H n e
  | [], es, e, h, q => h e (lastOf_mem q)
  | x :: r, es, e, h, q => by
    have q : (match lastOf es "module" x with | none => none | some e => dueN space e.sub r z) = some e := q
    cases hl : lastOf es "module" x with
    | none =>
      rw [hl] at q
      cases q
    | some m =>
      rw [hl] at q
      exact dueN_rep r m.sub e (h m (lastOf_mem hl)).sub q
theorem optV_dp {K : PySem.W.Frag} {H : Hp} {n : Nat} (hn : n ≤ 64) {o : Option E} (h : ∀ e, o = some e → Rep H n e) : ∃ d, Dp K H (optV o) d ∧ SeqAt.shaped d = true ∧ PyData.eqv d d = true := by
  cases o with
  | none => exact ⟨_, .non, by decide +kernel, by decide +kernel⟩
  | some e =>
    obtain ⟨d, h1, h2, h3⟩ := (h e rfl).dok.dp (K := K)
    refine ⟨d, h1, ?_, SeqAt.eqv_refl d h2⟩
    unfold SeqAt.shaped
    rw [h2, decide_eq_true (by omega)]
    rfl
structure Own (P : Program) (w : World) (K : PySem.W.Frag) (mg : Str → Option Value) (base : Heap) (n : Nat) (x : Str) (f : Addr) (fd : FuncData) (ps : List Str) (sp : Sp) : Prop where
  ok : FnOk P w K mg base CX0 n f fd ps sp
  bd : Binds K fd ps []
  kp : PySem.W.keepIn K (.ref f) = true
  at_ : mg x = some (.ref f)
theorem catA {K : PySem.W.Frag} {H : Hp} {a b : Addr} {xs ys : List V} {Q : VK} (ha : H a = some (.tup xs)) (hb : H b = some (.tup ys)) (hl : xs.length + ys.length ≤ sizeLine) (q : ∀ p H', Same H H' → H' p = some (.tup (xs ++ ys)) → Q (.ref p) H') : rCatA K (.ref a) (.ref b) H Q := by
  refine ⟨a, b, xs, ys, rfl, rfl, SqT.of ha, SqT.of hb, hl, fun e => ?_, fun _ e => ?_, fun _ _ p hp => ?_⟩
  · subst e
    exact q b H (Same.refl H) hb
  · subst e
    exact q a H (Same.refl H) (by rw [List.append_nil]; exact ha)
  · exact q p _ (same_upd hp) upd_same
def spLaw (K : PySem.W.Frag) : Sp := fun vs H Q _ => ∃ (a : Addr) (ns : List Int), vs = [.ref a] ∧ SqL K H a (ns.map V.int) ∧ ns.length ≤ 63 ∧ ∀ H', Q (.bl true) H'
theorem refs_app (a b : List E) : refs (a ++ b) = refs a ++ refs b := List.map_append
theorem text4 {r : Int} (h0 : 0 ≤ r) (h1 : r < 4) : ∃ nm : Str, atI [V.str "A", .str "B", .str "Z", .str "a"] r = some (.str nm) := by
  rcases pick_cases h0 h1 (by decide) with rfl | rfl | rfl | rfl | h | h | h | h
  · exact ⟨_, atI_nat (j := 0) rfl⟩
  · exact ⟨_, atI_nat (j := 1) rfl⟩
  · exact ⟨_, atI_nat (j := 2) rfl⟩
  · exact ⟨_, atI_nat (j := 3) rfl⟩
  all_goals omega
theorem text7 {a b c d e f g : Str} {r : Int} (h0 : 0 ≤ r) (h1 : r < 7) : ∃ nm : Str, atI [V.str a, .str b, .str c, .str d, .str e, .str f, .str g] r = some (.str nm) := by
  rcases pick_cases h0 h1 (by decide) with rfl | rfl | rfl | rfl | rfl | rfl | rfl | h
  · exact ⟨_, atI_nat (j := 0) rfl⟩
  · exact ⟨_, atI_nat (j := 1) rfl⟩
  · exact ⟨_, atI_nat (j := 2) rfl⟩
  · exact ⟨_, atI_nat (j := 3) rfl⟩
  · exact ⟨_, atI_nat (j := 4) rfl⟩
  · exact ⟨_, atI_nat (j := 5) rfl⟩
  · exact ⟨_, atI_nat (j := 6) rfl⟩
  · omega
theorem ref_at {ms : List E} {r : Int} (h0 : 0 ≤ r) (h1 : r < (ms.length : Int)) : ∃ e, e ∈ ms ∧ atI (refs ms) r = some (.ref e.addr) := by
  obtain ⟨j, hj⟩ : ∃ j : Nat, r = (j : Int) := ⟨_, (Int.toNat_of_nonneg h0).symm⟩
  have hj2 : j < ms.length := by omega
  refine ⟨ms[j], List.getElem_mem hj2, ?_⟩
  rw [hj]
  refine atI_nat ?_
  unfold refs
  rw [List.getElem?_map, List.getElem?_eq_getElem hj2]
  rfl
section
variable {P : Program} {w : World} {K : PySem.W.Frag} {mg : Str → Option Value} {base : Heap}
theorem ok_law {f f1 f2 f3 f4 f5 : Addr} {fd d1 d2 d3 d4 d5 : FuncData} (F : Fun K "law" "law" sLaw f fd)
    (Ot : Own P w K mg base 1 "_law_tape" f1 d1 ["script", "many"] (spTape K)) (Op : Own P w K mg base 1 "_law_pick" f2 d2 ["tape", "at", "many"] (spPick K)) (Oe : Own P w K mg base 9 "_law_entries" f3 d3 ["tape", "at", "level"] (spEntries K 4))
    (Ol : Own P w K mg base 3 "lookup" f4 d4 ["entries", "space", "path"] spLookup) (Od : Own P w K mg base 2 "_law_due" f5 d5 ["entries", "space", "path"] spLookup) (m_range : mg "range" = none) (m_len : mg "len" = none) (m_tuple : mg "tuple" = none) :
    FnOk P w K mg base CX0 10 f fd ["script"] (spLaw K) := by
  refine F.ok scLaw (fun vs H Q E h => ?_) (fun cdv A outer s H vs Q E hr h => ?_)
  · obtain ⟨a, ns, rfl, _⟩ := h
    rfl
  obtain ⟨a, ns, rfl, hS, hlen, q⟩ := h
  have hr1 : Room 1 (A.deeper (envOfC "law" (defScope sLaw) s.heap.objs.size f cdv)) := hr.mono (by decide)
  have hr2 : Room 2 (A.deeper (envOfC "law" (defScope sLaw) s.heap.objs.size f cdv)) := hr.mono (by decide)
  have hr3 : Room 3 (A.deeper (envOfC "law" (defScope sLaw) s.heap.objs.size f cdv)) := hr.mono (by decide)
  refine ⟨_, pss_cons (ps_set (i := 1) scLaw.nd rfl (.inl rfl) (pe_call Ot.ok hr1 rfl Ot.at_ Ot.kp Ot.bd .nil pass0 (pa_cons (pv 0) (pa_cons pe_int pa_nil))))
      (pss_cons (ps_asg (pe_call Oe.ok hr rfl Oe.at_ Oe.kp Oe.bd .nil pass0 (pa_cons (pv 1) (pa_cons pe_int (pa_cons pe_int pa_nil)))) (pg_tup rfl (pgs_cons (pg_name (i := 2) scLaw.nd rfl (.inl rfl)) (pgs_cons (pg_name (i := 3) scLaw.nd rfl (.inl rfl)) pgs_nil))))
      (pss_cons (ps_asg (pe_call Oe.ok hr rfl Oe.at_ Oe.kp Oe.bd .nil pass0 (pa_cons (pv 1) (pa_cons (pv 3) (pa_cons pe_int pa_nil)))) (pg_tup rfl (pgs_cons (pg_name (i := 4) scLaw.nd rfl (.inl rfl)) (pgs_cons (pg_name (i := 3) scLaw.nd rfl (.inl rfl)) pgs_nil))))
      (pss_cons (ps_asg (pe_call Oe.ok hr rfl Oe.at_ Oe.kp Oe.bd .nil pass0 (pa_cons (pv 1) (pa_cons (pv 3) (pa_cons pe_int pa_nil)))) (pg_tup rfl (pgs_cons (pg_name (i := 5) scLaw.nd rfl (.inl rfl)) (pgs_cons (pg_name (i := 3) scLaw.nd rfl (.inl rfl)) pgs_nil))))
      (pss_cons (ps_set (i := 6) scLaw.nd rfl (.inl rfl) (pe_op op_catA (pe_op op_catA (pv 2) (pe_tup (pa_cons (pe_tup (pa_cons pe_str (pa_cons pe_str (pa_cons (pv 4) pa_nil)))) pa_nil))) (pv 5)))
      (pss_cons (ps_for PassesOwn.never rfl (pi_range1 rfl m_range (pa_cons pe_int pa_nil)) (pg_name (i := 7) scLaw.nd rfl (.inl rfl)) (pss_cons (ps_set (i := 8) scLaw.nd rfl (.inl rfl) (pe_lst pa_nil))
      (pss_cons (ps_set (i := 9) scLaw.nd rfl (.inl rfl) (pv 6))
      (pss_cons (ps_for PassesOwn.never rfl (pi_range1 rfl m_range (pa_cons (pe_call Op.ok hr1 rfl Op.at_ Op.kp Op.bd .nil pass0 (pa_cons (pv 1) (pa_cons (pv 3) (pa_cons pe_int pa_nil)))) pa_nil)) (pg_name (i := 10) scLaw.nd rfl (.inl rfl)) (pss_cons (ps_setLc (i := 11) (own := [("entry", 14)]) (g := gName 14) (tt := tTest (tOp rEq (tOp (rIxT K) (tVar 14) (tC (.int 0))) (tC (.str "module")))) rfl scLaw.nd rfl rfl (sw_true rfl rfl rfl (by decide +kernel)) (pi_tup (pv 9)) (blkOk_by (own := [("entry", 14)]) (N := ["script", "tape", "first", "at", "second", "third", "entries", "k", "path", "here", "step", "modules", "chosen", "space", "entry"]) (sc := defScope sLaw) (by decide +kernel)) (fun _ _ _ _ _ => pg_name (i := 14) scLaw.nd rfl (Or.inl rfl)) (fun _ _ _ _ _ => pts_one (pt_cmpR op_eq (pe_ix ix_tup (pv 14) pe_int (fun _ _ => rfl)) pe_str (nomark _))) (fun _ _ _ _ _ => pv 14))
      (pss_cons (ps_if (PW.pt (pw_and (pt_cmpR op_gt (pe_callB call_len_seq (by rfl) m_len PySem.boot_len (pa_cons (pv 11) pa_nil)) pe_int (nomark _)) (pw_and1 (pt_cmpR op_gt (pe_call Op.ok hr1 rfl Op.at_ Op.kp Op.bd .nil pass0 (pa_cons (pv 1) (pa_cons (pe_op op_add (pv 3) pe_int) (pa_cons pe_int pa_nil)))) pe_int (nomark _))))) (pss_cons (ps_set (i := 12) scLaw.nd rfl (.inl rfl) (pe_ix ix_list (pv 11) (pe_call Op.ok hr1 rfl Op.at_ Op.kp Op.bd .nil pass0 (pa_cons (pv 1) (pa_cons (pe_op op_add (pv 3) pe_int) (pa_cons (pe_callB call_len_seq (by rfl) m_len PySem.boot_len (pa_cons (pv 11) pa_nil)) pa_nil)))) (fun _ _ => rfl)))
      (pss_cons (ps_expr (pe_bm PySem.F.plainAttrs_list PySem.F.slot_list_append PySem.F.type_list_append mt_append (pv 8) (pa_cons (pe_ix ix_tup (pv 12) pe_int (fun _ _ => rfl)) pa_nil)))
      (pss_one (ps_set (i := 9) scLaw.nd rfl (.inl rfl) (pe_ix ix_tup (pv 12) pe_int (fun _ _ => rfl)))))) (pss_one (ps_expr (pe_bm PySem.F.plainAttrs_list PySem.F.slot_list_append PySem.F.type_list_append mt_append (pv 8) (pa_cons (pe_ix ix_tup (pe_tup (pa_cons pe_str (pa_cons pe_str (pa_cons pe_str (pa_cons pe_str pa_nil))))) (pe_call Op.ok hr1 rfl Op.at_ Op.kp Op.bd .nil pass0 (pa_cons (pv 1) (pa_cons (pe_op op_add (pv 3) pe_int) (pa_cons pe_int pa_nil)))) (fun _ _ => rfl)) pa_nil)))))
      (pss_one (ps_set (i := 3) scLaw.nd rfl (.inl rfl) (pe_op op_add (pv 3) pe_int))))))
      (pss_cons (ps_expr (pe_bm PySem.F.plainAttrs_list PySem.F.slot_list_append PySem.F.type_list_append mt_append (pv 8) (pa_cons (pe_ix ix_tup (pe_tup (pa_cons pe_str (pa_cons pe_str (pa_cons pe_str (pa_cons pe_str (pa_cons pe_str (pa_cons pe_str (pa_cons pe_str pa_nil)))))))) (pe_call Op.ok hr1 rfl Op.at_ Op.kp Op.bd .nil pass0 (pa_cons (pv 1) (pa_cons (pv 3) (pa_cons pe_int pa_nil)))) (fun _ _ => rfl)) pa_nil)))
      (pss_cons (ps_set (i := 13) scLaw.nd rfl (.inl rfl) (pe_ix ix_tup (pe_tup (pa_cons pe_str (pa_cons pe_str (pa_cons pe_str (pa_cons pe_str (pa_cons pe_str (pa_cons pe_str (pa_cons pe_str pa_nil)))))))) (pe_call Op.ok hr1 rfl Op.at_ Op.kp Op.bd .nil pass0 (pa_cons (pv 1) (pa_cons (pe_op op_add (pv 3) pe_int) (pa_cons pe_int pa_nil)))) (fun _ _ => rfl)))
      (pss_cons (ps_set (i := 3) scLaw.nd rfl (.inl rfl) (pe_op op_add (pv 3) pe_int))
      (pss_one (ps_if (pt_cmpR (op_neD hr.units) (pe_call Ol.ok hr3 rfl Ol.at_ Ol.kp Ol.bd .nil pass0 (pa_cons (pv 6) (pa_cons (pv 13) (pa_cons (pe_callTy call_tuple_of (by rfl) m_tuple (by decide +kernel) (pa_cons (pv 8) pa_nil)) pa_nil)))) (pe_call Od.ok hr2 rfl Od.at_ Od.kp Od.bd .nil pass0 (pa_cons (pv 6) (pa_cons (pv 13) (pa_cons (pe_callTy call_tuple_of (by rfl) m_tuple (by decide +kernel) (pa_cons (pv 8) pa_nil)) pa_nil)))) (nomark _)) (pss_one (ps_ret pe_bl)) pss_nil)))))))))
      (pss_one (ps_ret pe_bl))))))), ?_⟩
  -- tape, first, second, third
  refine ⟨_, rfl, a, ns, 300, rfl, hS, by decide, by decide, fun H1 tp ts S1 htp lts nts => ?_⟩
  have tpos : 0 < ts.length := by
    rw [lts]
    decide
  refine ⟨_, rfl, tp, ts, 1, 3, rfl, by decide, SqL.of htp, tpos, fun H2 r1 a1 es1 at1 S2 e1 R1 l1 => ?_⟩
  refine ⟨r1, _, rfl, SqT.of e1, rfl, _, _, rfl, _, _, rfl, rfl, ?_⟩
  refine ⟨_, rfl, _, rfl, tp, ts, at1, 2, rfl, by decide, SqL.of (S2 _ _ htp), tpos, fun H3 r2 a2 es2 at2 S3 e2 R2 l2 => ?_⟩
  refine ⟨r2, _, rfl, SqT.of e2, rfl, _, _, rfl, _, _, rfl, rfl, ?_⟩
  refine ⟨_, rfl, _, rfl, tp, ts, at2, 1, rfl, by decide, SqL.of (S3 _ _ (S2 _ _ htp)), tpos, fun H4 r3 a3 es3 at3 S4 e3 R3 l3 => ?_⟩
  refine ⟨r3, _, rfl, SqT.of e3, rfl, _, _, rfl, _, _, rfl, rfl, ?_⟩
  have htp4 := S4 _ _ (S3 _ _ (S2 _ _ htp))
  have R1' := (R1.mono (ST.same S3)).mono (ST.same S4)
  have R2' := R2.mono (ST.same S4)
  refine ⟨_, rfl, _, rfl, zz 3, fun pm nm => ⟨zz 1, fun po no => ?_⟩⟩
  have Sm : Same H4 _ := (same_upd nm (o := .tup [.str "module", .str "A", .ref a2])).trans (same_upd no (o := .tup [.ref pm]))
  refine catA (Sm _ _ R1'.at_) upd_same (by rw [refs_len]; exact zz _ (by show es1.length + 1 ≤ 1000; omega)) (fun b1 H5 S5 h5 => ⟨_, rfl, catA h5 (S5 _ _ (Sm _ _ R3.at_)) (by rw [List.length_append, refs_len, refs_len]; exact zz _ (by show es1.length + 1 + es3.length ≤ 1000; omega)) (fun en H6 S6 h6 => ?_)⟩)
  have SM : Same H4 H6 := Sm.trans (S5.trans S6)
  have RE : Reps H6 11 en (es1 ++ [.mod pm "A" a2 es2] ++ es3) := by
    refine ⟨?_, fun e he => ?_, ?_⟩
    · rw [h6, refs_app, refs_app]
      rfl
    · rcases List.mem_append.mp he with he | he
      · rcases List.mem_append.mp he with he | he
        · exact ((R1'.mono (ST.same SM)).all e he).up (by decide)
        · rw [List.mem_singleton.mp he]
          exact .mod (S6 _ _ (S5 _ _ (same_upd no _ _ upd_same))) (SM _ _ R2'.at_) (by decide +kernel) R2'.len (fun e he => (R2'.mono (ST.same SM)).all e he)
      · exact ((R3.mono (ST.same SM)).all e he).up (by decide)
    · rw [List.length_append, List.length_append]
      show es1.length + 1 + es3.length ≤ 1000
      omega
  have htp6 := SM _ _ htp4
  generalize es1 ++ [Vk.E.mod pm "A" a2 es2] ++ es3 = EE at RE
  refine ⟨12, rfl, by decide, by decide, ?_⟩
  refine for_range (n := 12) (fun i σ H' => ∃ y0 y2 at' y4 y5 y7 y8 y9 y10 y11 y12 y13 y14, σ = [y0, some (.ref tp), y2, some (.int at'), y4, y5, some (.ref en), y7, y8, y9, y10, y11, y12, y13, y14] ∧ Same H6 H')
    ⟨_, _, _, _, _, _, _, _, _, _, _, _, _, rfl, Same.refl _⟩ (fun i σ H' hi h => ?_) (fun σ H' h => ?_)
  · obtain ⟨y0, y2, at', y4, y5, y7, y8, y9, y10, y11, y12, y13, y14, rfl, SH⟩ := h
    have htpH := SH _ _ htp6
    have REH := RE.mono (ST.same SH)
    refine ⟨Nat.zero_le _, fun L nL => ⟨_, rfl, _, rfl, _, rfl, tp, ts, _, _, rfl, SqL.of (same_upd nL _ _ htpH), tpos, by decide, fun r r0 r1 => ⟨r, rfl, by omega, by omega, ?_⟩⟩⟩
    refine for_range (n := r.toNat) (fun i σ H'' => ∃ y0 y2 at' y4 y5 y7 ha m es' names y10 y11 y12 y13 y14, σ = [y0, some (.ref tp), y2, some (.int at'), y4, y5, some (.ref en), y7, some (.ref L), some (.ref ha), y10, y11, y12, y13, y14] ∧ Same H' H'' ∧ H'' L = some (.lst ((names : List Str).map V.str)) ∧ Reps H'' m ha es' ∧ names.length = i)
      ⟨_, _, _, _, _, _, en, 11, EE, [], _, _, _, _, _, rfl, same_upd nL, upd_same, REH.mono (ST.same (same_upd nL)), rfl⟩ (fun j σ H2 hj h => ?_) (fun σ H2 h => ?_)
    · obtain ⟨y0, y2, at', y4, y5, y7, ha, m, es', names, y10, y11, y12, y13, y14, rfl, S2, hL, RH, lnm⟩ := h
      have htp2 : SqL K H2 tp (ts.map V.int) := SqL.of (S2 _ _ htpH)
      refine ⟨_, rfl, ha, rfl, ⟨_, SqT.of RH.at_⟩, fun D nD => ?_⟩
      refine lc_tup (K := K) (a := ha) (xs := refs es') (fun j Hc => Same H2 Hc ∧ ∃ ms : List Vk.E, Hc D = some (.lst (refs ms)) ∧ ms.length ≤ j ∧ ∀ e ∈ ms, e ∈ es' ∧ e.kind = "module")
        ⟨same_upd nD, [], upd_same, Nat.le_refl _, fun e he => by cases he⟩ (fun i Hc _ h => SqT.of (h.1 _ _ RH.at_)) (fun i x Hc hx h => ?_) (fun Hc h => ?_)
      · obtain ⟨Sc, ms, hD, lms, hms⟩ := h
        obtain ⟨e, he, rfl⟩ := refs_get hx
        have hi : i < es'.length := (List.getElem?_eq_some_iff.mp he).1
        obtain ⟨rest, ht⟩ := ((RH.all e (List.mem_of_getElem? he)).mono (ST.same Sc)).tup
        refine ⟨rfl, _, rfl, e.addr, _, _, _, rfl, rfl, SqT.of ht, atI_nat (j := 0) rfl, rfl, _, rfl, ?_⟩
        have len1 := RH.len
        refine ite2 (fun c => ?_) (fun c => ?_)
        · have k1 : e.kind = "module" := V.str.inj (of_decide_eq_true c)
          refine ⟨_, rfl, _, hD, small1000 (by rw [refs_len]; omega), same_skip Sc nD, ms ++ [e], ?_, ?_, fun e' he' => ?_⟩
          · rw [upd_same, refs_app]
            rfl
          · rw [List.length_append]
            show ms.length + 1 ≤ i + 1
            omega
          · rcases List.mem_append.mp he' with h | h
            · exact hms e' h
            · rw [List.mem_singleton.mp h]
              exact ⟨List.mem_of_getElem? he, k1⟩
        · exact ⟨Sc, ms, hD, by omega, hms⟩
      obtain ⟨Sc, ms, hD, lms, hms⟩ := h
      have hLc := Sc _ _ hL
      have RHc := RH.mono (ST.same Sc)
      have htpc : SqL K Hc tp (ts.map V.int) := Sc.seq htp2
      refine ⟨_, rfl, D, _, rfl, .inl (SqL.of hD), _, _, rfl, rfl, _, rfl, ite2 (fun c1 => ?_) (fun c1 => ?_)⟩
      · have c1' : 0 < (((refs ms).length : Nat) : Int) := of_decide_eq_true c1
        refine ⟨_, rfl, _, rfl, _, _, rfl, rfl, tp, ts, _, _, rfl, htpc, tpos, by decide, fun r2 _ _ => ⟨_, _, rfl, rfl, _, rfl, ite2 (fun c2 => ?_) (fun c2 => ?_)⟩⟩
        · refine ⟨_, rfl, _, rfl, _, rfl, _, _, rfl, rfl, _, rfl, D, _, rfl, .inl (SqL.of hD), tp, ts, _, _, rfl, htpc, tpos, c1', fun r3 r30 r31 => ?_⟩
          rw [refs_len] at r31
          obtain ⟨e, hem, hat⟩ := ref_at r30 r31
          obtain ⟨q', m', Rsub, het⟩ := (RHc.all e (hms e hem).1).inner (hms e hem).2
          refine ⟨D, _, _, _, rfl, rfl, SqL.of hD, hat, ?_⟩
          refine ⟨_, rfl, .inl ⟨rfl, _, SqL.of hLc⟩, _, rfl, e.addr, _, _, _, rfl, rfl, SqT.of het, atI_nat (j := 1) rfl, L, _, _, rfl, rfl, hLc, small1000 (by rw [List.length_map]; omega), ?_⟩
          have SL := ST.lst hLc (.lst (names.map V.str ++ [.str e.name]))
          refine ⟨_, rfl, e.addr, _, _, _, rfl, rfl, SqT.of (SL _ _ het), atI_nat (j := 2) rfl, ?_⟩
          refine ⟨_, rfl, _, _, rfl, rfl, ?_⟩
          refine ⟨_, _, _, _, _, _, q', m', e.sub, names ++ [e.name], _, _, _, _, _, rfl, same_skip (S2.trans Sc) nL, ?_, Rsub.mono SL, ?_⟩
          · rw [upd_same, List.map_append]
            rfl
          · rw [List.length_append, lnm]
            rfl
        · refine ⟨_, rfl, .inl ⟨rfl, _, SqL.of hLc⟩, zz 4, fun pt nt => ⟨_, rfl, _, rfl, _, _, rfl, rfl, tp, ts, _, _, rfl, (same_upd nt).seq htpc, tpos, by decide, fun r4 r40 r41 => ?_⟩⟩
          obtain ⟨nm, e1⟩ := text4 r40 r41
          have hLt := same_upd nt (o := .tup [.str "A", .str "B", .str "Z", .str "a"]) _ _ hLc
          refine ⟨pt, _, _, _, rfl, rfl, SqT.of upd_same, e1, L, _, _, rfl, rfl, hLt, small1000 (by rw [List.length_map]; omega), ?_⟩
          refine ⟨_, rfl, _, _, rfl, rfl, ?_⟩
          refine ⟨_, _, _, _, _, _, ha, m, es', names ++ [nm], _, _, _, _, _, rfl, same_skip ((S2.trans Sc).trans (same_upd nt)) nL, ?_, (RHc.mono (ST.same (same_upd nt))).mono (ST.lst hLt _), ?_⟩
          · rw [upd_same, List.map_append]
            rfl
          · rw [List.length_append, lnm]
            rfl
      · refine ⟨_, rfl, .inl ⟨rfl, _, SqL.of hLc⟩, zz 4, fun pt nt => ⟨_, rfl, _, rfl, _, _, rfl, rfl, tp, ts, _, _, rfl, (same_upd nt).seq htpc, tpos, by decide, fun r4 r40 r41 => ?_⟩⟩
        obtain ⟨nm, e1⟩ := text4 r40 r41
        have hLt := same_upd nt (o := .tup [.str "A", .str "B", .str "Z", .str "a"]) _ _ hLc
        refine ⟨pt, _, _, _, rfl, rfl, SqT.of upd_same, e1, L, _, _, rfl, rfl, hLt, small1000 (by rw [List.length_map]; omega), ?_⟩
        refine ⟨_, rfl, _, _, rfl, rfl, ?_⟩
        refine ⟨_, _, _, _, _, _, ha, m, es', names ++ [nm], _, _, _, _, _, rfl, same_skip ((S2.trans Sc).trans (same_upd nt)) nL, ?_, (RHc.mono (ST.same (same_upd nt))).mono (ST.lst hLt _), ?_⟩
        · rw [upd_same, List.map_append]
          rfl
        · rw [List.length_append, lnm]
          rfl
    · obtain ⟨y0, y2, at2, y4, y5, y7, ha, m, es', names, y10, y11, y12, y13, y14, rfl, S2, hL, RH, lnm⟩ := h
      have htp2 : SqL K H2 tp (ts.map V.int) := SqL.of (S2 _ _ htpH)
      refine ⟨_, rfl, .inl ⟨rfl, _, SqL.of hL⟩, zz 7, fun pt nt => ⟨_, rfl, _, rfl, tp, ts, _, _, rfl, (same_upd nt).seq htp2, tpos, by decide, fun r4 r40 r41 => ?_⟩⟩
      obtain ⟨nm, e1⟩ := text7 (a := "a") (b := "A") (c := "list") (d := "B") (e := "x") (f := "C1") (g := "none") r40 r41
      have St := same_upd nt (o := .tup [.str "a", .str "A", .str "list", .str "B", .str "x", .str "C1", .str "none"])
      have hLt := St _ _ hL
      refine ⟨pt, _, _, _, rfl, rfl, SqT.of upd_same, e1, L, _, _, rfl, rfl, hLt, small1000 (by rw [List.length_map]; omega), ?_⟩
      have S3 : Same H' (upd (upd H2 pt (.tup [.str "a", .str "A", .str "list", .str "B", .str "x", .str "C1", .str "none"])) L (.lst (names.map V.str ++ [.str nm]))) := same_skip (S2.trans St) nL
      generalize hH3 : upd (upd H2 pt (.tup [.str "a", .str "A", .str "list", .str "B", .str "x", .str "C1", .str "none"])) L (.lst (names.map V.str ++ [.str nm])) = H3 at S3
      have hL3 : H3 L = some (.lst (names.map V.str ++ [.str nm])) := by rw [← hH3, upd_same]
      refine ⟨zz 7, fun pu nu => ⟨_, rfl, _, rfl, _, _, rfl, rfl, tp, ts, _, _, rfl, SqL.of (same_upd nu _ _ (S3 _ _ htpH)), tpos, by decide, fun r5 r50 r51 => ?_⟩⟩
      obtain ⟨sp, e2⟩ := text7 (a := "val") (b := "con") (c := "shape") (d := "name") (e := "module") (f := "functor") (g := "signature") r50 r51
      refine ⟨pu, _, _, _, rfl, rfl, SqT.of upd_same, e2, ?_⟩
      have S4 := S3.trans (same_upd nu (o := .tup [.str "val", .str "con", .str "shape", .str "name", .str "module", .str "functor", .str "signature"]))
      have hL4 := same_upd nu (o := .tup [.str "val", .str "con", .str "shape", .str "name", .str "module", .str "functor", .str "signature"]) _ _ hL3
      generalize upd H3 pu (.tup [.str "val", .str "con", .str "shape", .str "name", .str "module", .str "functor", .str "signature"]) = H4' at S4 hL4
      refine ⟨_, rfl, _, _, rfl, rfl, ?_⟩
      have R4 := REH.mono (ST.same S4)
      refine ⟨_, rfl, _, rfl, _, rfl, L, _, rfl, .inl ⟨SqL.of hL4, fun t1 n1 => ?_⟩⟩
      have T1 := same_upd n1 (o := .tup (names.map V.str ++ [.str nm]))
      refine ⟨en, t1, 11, EE, sp, nm, names, rfl, R4.mono (ST.same T1), upd_same, fun H5 S5 => ?_⟩
      have hL5 := S5 _ _ (T1 _ _ hL4)
      refine ⟨_, rfl, _, rfl, _, rfl, L, _, rfl, .inl ⟨SqL.of hL5, fun t2 n2 => ?_⟩⟩
      have T2 := same_upd n2 (o := .tup (names.map V.str ++ [.str nm]))
      have R5 := ((R4.mono (ST.same T1)).mono (ST.same S5)).mono (ST.same T2)
      refine ⟨en, t2, 11, EE, sp, nm, names, rfl, R5, upd_same, fun H6' S6' => ?_⟩
      have R6 := R5.mono (ST.same S6')
      obtain ⟨d, dp, sd, eq⟩ := optV_dp (K := K) (n := 11) (by decide) (o := dueN sp EE names nm) (fun e he => dueN_rep names EE e R6.all he)
      refine ⟨d, d, dp, dp, sd, sd, _, rfl, ?_⟩
      rw [eq]
      refine iteF ?_
      exact ⟨_, _, _, _, _, _, _, _, _, _, _, _, _, rfl, SH.trans (S4.trans (T1.trans (S5.trans (T2.trans S6'))))⟩
  · exact q H'
end
end Vk

set_option Elab.async false
set_option linter.all false
set_option maxRecDepth 100000
namespace Vk
open PySem PySem.Spec PyProof.Rows L2 RT
theorem all_mk {l : PySem.W.OpenLaw} {w : World} {K : PySem.W.Frag} {h : Heap} {mg : Str → Option Value} {fa f1 f2 f3 f4 f5 f6 f7 f8 f9 f10 : Addr} (X : K.In h) (G : h.Ns mainGlobals mg) (hfa : mg "law" = some (.ref fa))
    {od1 an1 od2 an2 od3 an3 od4 an4 od5 an5 od6 an6 od7 an7 od8 an8 od9 an9 od10 an10 : Option Addr} {sl1 sl2 sl3 sl4 sl5 sl6 sl7 sl8 sl9 sl10 : Array (Option Value)} {oc1 kV1 dc1 pm1 cd1 ct1 oc2 kV2 dc2 pm2 cd2 ct2 oc3 kV3 dc3 pm3 cd3 ct3 oc4 kV4 dc4 pm4 cd4 ct4 oc5 kV5 dc5 pm5 cd5 ct5 oc6 kV6 dc6 pm6 cd6 ct6 oc7 kV7 dc7 pm7 cd7 ct7 oc8 kV8 dc8 pm8 cd8 ct8 oc9 kV9 dc9 pm9 cd9 ct9 oc10 kV10 dc10 pm10 cd10 ct10 : Value}
    (a1 : PySem.W.nsIn K mainGlobals "space_of" = some (some (.ref f1))) (l1 : K.lookup f1 = some ⟨oc1, od1, .func (PySem.W.fnOf "space_of" "space_of" (defArgs sSpace) (defBody sSpace) (defScope sSpace) .none kV1 dc1 pm1 an1 cd1 ct1), sl1⟩) (c1 : PySem.W.codeIn K cd1 "space_of" = true) (k1 : PySem.W.keepIn K (.ref f1) = true)
    (a2 : PySem.W.nsIn K mainGlobals "lookup" = some (some (.ref f2))) (l2 : K.lookup f2 = some ⟨oc2, od2, .func (PySem.W.fnOf "lookup" "lookup" (defArgs sLookup) (defBody sLookup) (defScope sLookup) .none kV2 dc2 pm2 an2 cd2 ct2), sl2⟩) (c2 : PySem.W.codeIn K cd2 "lookup" = true) (k2 : PySem.W.keepIn K (.ref f2) = true)
    (a3 : PySem.W.nsIn K mainGlobals "last_entry" = some (some (.ref f3))) (l3 : K.lookup f3 = some ⟨oc3, od3, .func (PySem.W.fnOf "last_entry" "last_entry" (defArgs sLastE) (defBody sLastE) (defScope sLastE) .none kV3 dc3 pm3 an3 cd3 ct3), sl3⟩) (c3 : PySem.W.codeIn K cd3 "last_entry" = true) (k3 : PySem.W.keepIn K (.ref f3) = true)
    (a4 : PySem.W.nsIn K mainGlobals "_law_tape" = some (some (.ref f4))) (l4 : K.lookup f4 = some ⟨oc4, od4, .func (PySem.W.fnOf "_law_tape" "_law_tape" (defArgs sTape) (defBody sTape) (defScope sTape) .none kV4 dc4 pm4 an4 cd4 ct4), sl4⟩) (c4 : PySem.W.codeIn K cd4 "_law_tape" = true) (k4 : PySem.W.keepIn K (.ref f4) = true)
    (a5 : PySem.W.nsIn K mainGlobals "_law_pick" = some (some (.ref f5))) (l5 : K.lookup f5 = some ⟨oc5, od5, .func (PySem.W.fnOf "_law_pick" "_law_pick" (defArgs sPick) (defBody sPick) (defScope sPick) .none kV5 dc5 pm5 an5 cd5 ct5), sl5⟩) (c5 : PySem.W.codeIn K cd5 "_law_pick" = true) (k5 : PySem.W.keepIn K (.ref f5) = true)
    (a6 : PySem.W.nsIn K mainGlobals "_law_entry" = some (some (.ref f6))) (l6 : K.lookup f6 = some ⟨oc6, od6, .func (PySem.W.fnOf "_law_entry" "_law_entry" (defArgs sEntry) (defBody sEntry) (defScope sEntry) .none kV6 dc6 pm6 an6 cd6 ct6), sl6⟩) (c6 : PySem.W.codeIn K cd6 "_law_entry" = true) (k6 : PySem.W.keepIn K (.ref f6) = true)
    (a7 : PySem.W.nsIn K mainGlobals "_law_entries" = some (some (.ref f7))) (l7 : K.lookup f7 = some ⟨oc7, od7, .func (PySem.W.fnOf "_law_entries" "_law_entries" (defArgs sEntries) (defBody sEntries) (defScope sEntries) .none kV7 dc7 pm7 an7 cd7 ct7), sl7⟩) (c7 : PySem.W.codeIn K cd7 "_law_entries" = true) (k7 : PySem.W.keepIn K (.ref f7) = true)
    (a8 : PySem.W.nsIn K mainGlobals "_law_last" = some (some (.ref f8))) (l8 : K.lookup f8 = some ⟨oc8, od8, .func (PySem.W.fnOf "_law_last" "_law_last" (defArgs sLast) (defBody sLast) (defScope sLast) .none kV8 dc8 pm8 an8 cd8 ct8), sl8⟩) (c8 : PySem.W.codeIn K cd8 "_law_last" = true) (k8 : PySem.W.keepIn K (.ref f8) = true)
    (a9 : PySem.W.nsIn K mainGlobals "_law_due" = some (some (.ref f9))) (l9 : K.lookup f9 = some ⟨oc9, od9, .func (PySem.W.fnOf "_law_due" "_law_due" (defArgs sDue) (defBody sDue) (defScope sDue) .none kV9 dc9 pm9 an9 cd9 ct9), sl9⟩) (c9 : PySem.W.codeIn K cd9 "_law_due" = true) (k9 : PySem.W.keepIn K (.ref f9) = true)
    (a10 : PySem.W.nsIn K mainGlobals "law" = some (some (.ref f10))) (l10 : K.lookup f10 = some ⟨oc10, od10, .func (PySem.W.fnOf "law" "law" (defArgs sLaw) (defBody sLaw) (defScope sLaw) .none kV10 dc10 pm10 an10 cd10 ct10), sl10⟩) (c10 : PySem.W.codeIn K cd10 "law" = true) (k10 : PySem.W.keepIn K (.ref f10) = true)
    (z1 : PySem.W.nsIn K mainGlobals "abs" = some none) (z2 : PySem.W.nsIn K mainGlobals "max" = some none) (z3 : PySem.W.nsIn K mainGlobals "len" = some none) (z4 : PySem.W.nsIn K mainGlobals "range" = some none) (z5 : PySem.W.nsIn K mainGlobals "int" = some none) (z6 : PySem.W.nsIn K mainGlobals "tuple" = some none) (z7 : PySem.W.nsIn K mainGlobals "reversed" = some none)
    {d : Addr} {es : Array DictEntry} {n : Nat} {t : Tok} (y1 : PySem.W.nsIn K mainGlobals "SPACES" = some (some (.ref d))) (y2 : K.lookup d = some ⟨.type "dict", none, .dict es n, #[]⟩) (y3 : PySem.W.KeysLit w.params es.toList) (y4 : (d == sysModules) = false) (y5 : PySem.W.nsIn K d "exn" = some (some (.str "con" t)))
    (x0 : PySem.W.nsIn K d "val" = some none) (x1 : PySem.W.nsIn K d "con" = some none) (x2 : PySem.W.nsIn K d "shape" = some none) (x3 : PySem.W.nsIn K d "name" = some none) (x4 : PySem.W.nsIn K d "functor" = some none) (x5 : PySem.W.nsIn K d "signature" = some none) (x6 : PySem.W.nsIn K d "module" = some none)
    : ∃ fd : FuncData, (∀ (s : Shared) (v : Value), BindsTo s fd ⟨[v], []⟩ [("script", v)]) ∧ ∀ base : Heap, K.In base → base.Ns mainGlobals mg → FnOk l.prog w K mg base CX0 10 fa fd ["script"] (spLaw K) := by
  have e := hfa.symm.trans (PySem.W.mg_of X G a10)
  cases e
  have F1 := fun_mk (st := sSpace) l1 c1 k1
  have b1 := F1.binds (ps := ["entry"]) fun _ _ _ _ _ _ us hl => match us, hl with | [_], _ => rfl
  have g1 := PySem.W.mg_of X G a1
  have F2 := fun_mk (st := sLookup) l2 c2 k2
  have b2 := F2.binds (ps := ["entries", "space", "path"]) fun _ _ _ _ _ _ us hl => match us, hl with | [_, _, _], _ => rfl
  have g2 := PySem.W.mg_of X G a2
  have F3 := fun_mk (st := sLastE) l3 c3 k3
  have b3 := F3.binds (ps := ["entries", "space", "name"]) fun _ _ _ _ _ _ us hl => match us, hl with | [_, _, _], _ => rfl
  have g3 := PySem.W.mg_of X G a3
  have F4 := fun_mk (st := sTape) l4 c4 k4
  have b4 := F4.binds (ps := ["script", "many"]) fun _ _ _ _ _ _ us hl => match us, hl with | [_, _], _ => rfl
  have g4 := PySem.W.mg_of X G a4
  have F5 := fun_mk (st := sPick) l5 c5 k5
  have b5 := F5.binds (ps := ["tape", "at", "many"]) fun _ _ _ _ _ _ us hl => match us, hl with | [_, _, _], _ => rfl
  have g5 := PySem.W.mg_of X G a5
  have F6 := fun_mk (st := sEntry) l6 c6 k6
  have b6 := F6.binds (ps := ["tape", "at", "level"]) fun _ _ _ _ _ _ us hl => match us, hl with | [_, _, _], _ => rfl
  have g6 := PySem.W.mg_of X G a6
  have F7 := fun_mk (st := sEntries) l7 c7 k7
  have b7 := F7.binds (ps := ["tape", "at", "level"]) fun _ _ _ _ _ _ us hl => match us, hl with | [_, _, _], _ => rfl
  have g7 := PySem.W.mg_of X G a7
  have F8 := fun_mk (st := sLast) l8 c8 k8
  have b8 := F8.binds (ps := ["entries", "space", "name"]) fun _ _ _ _ _ _ us hl => match us, hl with | [_, _, _], _ => rfl
  have g8 := PySem.W.mg_of X G a8
  have F9 := fun_mk (st := sDue) l9 c9 k9
  have b9 := F9.binds (ps := ["entries", "space", "path"]) fun _ _ _ _ _ _ us hl => match us, hl with | [_, _, _], _ => rfl
  have g9 := PySem.W.mg_of X G a9
  have F10 := fun_mk (st := sLaw) l10 c10 k10
  have m_abs := PySem.W.mg_none_of X G z1
  have m_max := PySem.W.mg_none_of X G z2
  have m_len := PySem.W.mg_none_of X G z3
  have m_range := PySem.W.mg_none_of X G z4
  have m_int := PySem.W.mg_none_of X G z5
  have m_tuple := PySem.W.mg_none_of X G z6
  have m_reversed := PySem.W.mg_none_of X G z7
  refine ⟨PySem.W.fnOf "law" "law" (defArgs sLaw) (defBody sLaw) (defScope sLaw) .none kV10 dc10 pm10 an10 cd10 ct10, fun s v => .of_eq rfl, fun base _ _ => ?_⟩
  have S : Spaces K w mg d := ⟨⟨es, n, ⟨y2, y3, y4⟩⟩, PySem.W.mg_of X G y1, ⟨t, y5⟩, x0, x1, x2, x3, x4, x5, x6⟩
  have O1 := ok_space (P := l.prog) (base := base) (k := 0) F1 S
  have O3 := ok_lastE F3 O1 b1 F1.kp g1 m_reversed
  have O2 := ok_lookup F2 O3 b3 F3.kp g3
  have O4 := ok_tape (P := l.prog) (w := w) (base := base) (k := 0) F4 m_abs m_max m_len m_range m_int
  have O5 := ok_pick (P := l.prog) (w := w) (base := base) (k := 0) F5 m_int m_len
  have O7 := all_levels F6 b6 g6 F7 b7 g7 O5 b5 F5.kp g5 m_range m_tuple 4
  have O8 := ok_last (P := l.prog) (w := w) (mg := mg) (base := base) (k := 0) F8
  have O9 := ok_due F9 O8 b8 F8.kp g8
  exact ok_law F10 ⟨O4, b4, F4.kp, g4⟩ ⟨O5, b5, F5.kp, g5⟩ ⟨O7, b7, F7.kp, g7⟩ ⟨O2, b2, F2.kp, g2⟩ ⟨O9, b9, F9.kp, g9⟩ m_range m_len m_tuple
end Vk
open PySem PySem.W PyProof.Rows
set_option maxHeartbeats 0 in
theorem PySem.Challenge.cw_shapewright_k16_lookup_holds : PySem.Challenge.rw_shapewright_k16_lookup.Holds := by
  w_on; o_law; k_head; (case hw => w_witness2)
  k_fill
  refine L2.walk_of (l := PySem.Challenge.rw_shapewright_k16_lookup) (n := 63) (k := 10) (x := "script") (CX := fun _ => L2.CX0) (sp := fun w => Vk.spLaw _) rfl (by decide) rfl ⟨rfl, by decide, by decide⟩ (fun w h Y => PySem.W.kIn_of Y) ?F (fun _ _ a ns hl _ hS => ⟨a, ns, rfl, hS, hl, fun _ => rfl⟩) (fun _ _ _ _ _ h => h)
  case F =>
    intro w mg fa h KX G hmg
    refine' Vk.all_mk KX G hmg ?a1 ?l1 ?c1 ?k1 ?a2 ?l2 ?c2 ?k2 ?a3 ?l3 ?c3 ?k3 ?a4 ?l4 ?c4 ?k4 ?a5 ?l5 ?c5 ?k5 ?a6 ?l6 ?c6 ?k6 ?a7 ?l7 ?c7 ?k7 ?a8 ?l8 ?c8 ?k8 ?a9 ?l9 ?c9 ?k9 ?a10 ?l10 ?c10 ?k10 ?z1 ?z2 ?z3 ?z4 ?z5 ?z6 ?z7 ?y1 ?y2 ?y3 ?y4 ?y5 ?x0 ?x1 ?x2 ?x3 ?x4 ?x5 ?x6
    (case a1 => k_is)
    (case l1 => k_is)
    (case c1 => k_is)
    (case k1 => k_is)
    (case a2 => k_is)
    (case l2 => k_is)
    (case c2 => k_is)
    (case k2 => k_is)
    (case a3 => k_is)
    (case l3 => k_is)
    (case c3 => k_is)
    (case k3 => k_is)
    (case a4 => k_is)
    (case l4 => k_is)
    (case c4 => k_is)
    (case k4 => k_is)
    (case a5 => k_is)
    (case l5 => k_is)
    (case c5 => k_is)
    (case k5 => k_is)
    (case a6 => k_is)
    (case l6 => k_is)
    (case c6 => k_is)
    (case k6 => k_is)
    (case a7 => k_is)
    (case l7 => k_is)
    (case c7 => k_is)
    (case k7 => k_is)
    (case a8 => k_is)
    (case l8 => k_is)
    (case c8 => k_is)
    (case k8 => k_is)
    (case a9 => k_is)
    (case l9 => k_is)
    (case c9 => k_is)
    (case k9 => k_is)
    (case a10 => k_is)
    (case l10 => k_is)
    (case c10 => k_is)
    (case k10 => k_is)
    (case z1 => k_is)
    (case z2 => k_is)
    (case z3 => k_is)
    (case z4 => k_is)
    (case z5 => k_is)
    (case z6 => k_is)
    (case z7 => k_is)
    (case y1 => k_is)
    (case y2 => k_is)
    (case y3 => exact ⟨⟨_, _, rfl, rfl⟩, trivial⟩)
    (case y4 => decide +kernel)
    (case y5 => k_is)
    (case x0 => k_is)
    (case x1 => k_is)
    (case x2 => k_is)
    (case x3 => k_is)
    (case x4 => k_is)
    (case x5 => k_is)
    (case x6 => k_is)
