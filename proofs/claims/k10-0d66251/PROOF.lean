import PyProof.Rows.All
import Wide.All
import OpenK.AllK
import Wide.FinOn
import HandS.ForMost
import HandS.ForExc
import HandS.IsInst
import HandS.Gcd
import HandS.Deep
import HandS.Conv
import HandS.Sort
import HandS.SortRule
import HandS.SortInts
import HandS.TupSets
import HandS.Wide
import HandS.TupAny
import HandS.TupLe
import HandS.Zip
import HandS.Dict
import HandS.DictComp
import HandS.Iter
import HandS.Nested
import HandS.SortKw
import KE.DataMinKey
import PyProof.DictUpdate
import PyProof.DictDisplay
import HandS.WordsExc
import HandS.ExcOwn
import HandS.ExcInit
import HandS.ExcField
import HandS.HeadHook1
import HandS.ExcIs
import KE.KExcIs
import KE.KStateDown
import HandS.Head0
import HandS.Head1
import HandS.Head2
import HandS.Head3
import HandS.HeadEnd
import HandS.HeadHook2
import HandS.HeadHook3
import HandS.HeadHook4
import HandS.HeadWalk
import HandS.Defaults
import HandS.SetFor
import KE.KDflt
import HandS.Text
import HandS.Codes
import HandS.FStr
import HandS.WideBits
import KE.KMathGC
import PySem.Challenge.RW_stepwebs_k10_all_refused
set_option Elab.async false
set_option linter.all false
set_option maxRecDepth 100000
set_option maxHeartbeats 2000000
/-! Sw0: a calculus over data, above the hand layer: what an expression, a test, an argument list is worth, whatever lies further in the heap. -/
namespace SW
open PySem L2

/-! ### every reading at once, over a family of contexts -/
section
variable {I : Type} {X : I → Cx}
def uE (X : I → Cx) (e : Expr) : TE := fun σ H Q => ∃ t, (∀ i, PE (X i) e t) ∧ t σ H Q
def uT (X : I → Cx) (e : Expr) : TT := fun σ H Q => ∃ t, (∀ i, PT (X i) e t) ∧ t σ H Q
def uW (X : I → Cx) (e : Expr) : TT := fun σ H Q => ∃ t, (∀ i, PW (X i) e t) ∧ t σ H Q
def uA (X : I → Cx) (es : List Expr) : TA := fun σ H Q => ∃ t, (∀ i, PA (X i) es t) ∧ t σ H Q
def uS (X : I → Cx) (st : Stmt) : TS := fun D σ H => ∃ t, (∀ i, PS (X i) st t) ∧ t D σ H
def uB (X : I → Cx) (st : List Stmt) : TS := fun D σ H => ∃ t, (∀ i, PSs (X i) st t) ∧ t D σ H
def uI (X : I → Cx) (tg e : Expr) : TI := fun σ H R => ∃ t, (∀ i, PI (X i) tg e t) ∧ t σ H R
theorem pe_u {e : Expr} (i : I) : PE (X i) e (uE X e) := ⟨fun _ _ _ _ _ I h => let ⟨_, p, q⟩ := h; (p i).run _ _ _ _ _ I q⟩
theorem pt_u {e : Expr} (i : I) : PT (X i) e (uT X e) := ⟨fun _ _ _ _ _ I h => let ⟨_, p, q⟩ := h; (p i).run _ _ _ _ _ I q⟩
theorem pw_u {e : Expr} (i : I) : PW (X i) e (uW X e) := ⟨fun _ _ _ _ _ _ I h => let ⟨_, p, q⟩ := h; (p i).run _ _ _ _ _ _ I q⟩
theorem pa_u {es : List Expr} (i : I) : PA (X i) es (uA X es) := ⟨fun _ _ _ _ _ _ I h => let ⟨_, p, q⟩ := h; (p i).run _ _ _ _ _ _ I q⟩
theorem ps_u {st : Stmt} (i : I) : PS (X i) st (uS X st) := ⟨fun _ _ _ _ _ I h => let ⟨_, p, q⟩ := h; (p i).run _ _ _ _ _ I q⟩
theorem pb_u {st : List Stmt} (i : I) : PSs (X i) st (uB X st) := ⟨fun _ _ _ _ _ I h => let ⟨_, p, q⟩ := h; (p i).run _ _ _ _ _ I q⟩
theorem pi_u {tg e : Expr} (i : I) : PI (X i) tg e (uI X tg e) := ⟨fun _ _ _ _ _ I h => let ⟨_, p, q⟩ := h; (p i).run _ _ _ _ _ I q⟩
end

/-! ### what stays: all that is tracked, but that a code object's table may grow -/
def nT : HO → Bool
  | .tbl _ => false
  | _ => true
/-- a code object that a table tells: known, of the name q -/
def CodH (H : Hp) (c : Addr) (q : Str) : Prop := ∃ oc vs t, H c = some (.frz oc (.own 0)) ∧ oc.data = .fields vs ∧ vs[1]? = some (.str q t)
/-- the names of the code objects that are told by tables, by their places in the text -/
class Nm where
  nm : Nat → Nat → Str
variable [Nm]
/-- the table at P: each code object that it tells is known -/
def TabF (H : Hp) (P : Addr) : Prop := ∃ ps : Array Value, H P = some (.tbl ps) ∧ TriplesOk ps.toList ∧ ∀ pos cv, codeAmong pos ps.toList = some cv → ∃ c, cv = .ref c ∧ CodH H c (Nm.nm pos.line pos.col)
structure Same (H H' : Hp) : Prop where
  at_ : ∀ b o, H b = some o → (h : nT o = true := by rfl) → H' b = some o
  tab : ∀ P, TabF H P → TabF H' P
instance {H H' : Hp} : CoeFun (Same H H') (fun _ => ∀ b o, H b = some o → (h : nT o = true := by rfl) → H' b = some o) := ⟨@Same.at_ _ H H'⟩
theorem Same.refl (H : Hp) : Same H H := ⟨fun _ _ h _ => h, fun _ h => h⟩
theorem Same.trans {H H1 H2 : Hp} (a : Same H H1) (b : Same H1 H2) : Same H H2 := ⟨fun c o h n => b.at_ c o (a.at_ c o h n) n, fun P h => b.tab P (a.tab P h)⟩
theorem TabF.grow {H H' : Hp} {P : Addr} (k : ∀ b o, H b = some o → H' b = some o) (h : TabF H P) : TabF H' P := by
  obtain ⟨ps, h1, h2, h3⟩ := h
  refine ⟨ps, k _ _ h1, h2, fun pos cv hc => ?_⟩
  obtain ⟨c, e, oc, vs, t, a, b⟩ := h3 pos cv hc
  exact ⟨c, e, oc, vs, t, k _ _ a, b⟩
theorem Same.of {H H' : Hp} (k : ∀ b o, H b = some o → H' b = some o) : Same H H' := ⟨fun b o h _ => k b o h, fun _ h => h.grow k⟩
/-- no table, no code object -/
def nC : HO → Bool
  | .tbl _ => false
  | .frz _ (.own _) => false
  | _ => true
theorem TabF.write {H : Hp} {D P : Addr} {o u : HO} (h : TabF H P) (hD : H D = some o) (hn : nC o = true) : TabF (upd H D u) P := by
  obtain ⟨ps, h1, h2, h3⟩ := h
  have ne : ∀ b o', H b = some o' → nC o' = false → b ≠ D := fun b o' e1 e2 z => by
    subst z
    rw [hD] at e1
    cases e1
    rw [hn] at e2
    cases e2
  refine ⟨ps, by rw [upd_ne (ne _ _ h1 rfl)]; exact h1, h2, fun pos cv hc => ?_⟩
  obtain ⟨c, e, oc, vs, t, a, b⟩ := h3 pos cv hc
  exact ⟨c, e, oc, vs, t, by rw [upd_ne (ne _ _ a rfl)]; exact a, b⟩
/-- what stood neither nor is a table or a code object may be written -/
theorem same_hide {H H' : Hp} {D : Addr} {o u : HO} (s : Same H H') (h : H D = none) (hD : H' D = some o) (hn : nC o = true := by rfl) : Same H (upd H' D u) :=
  ⟨fun b o' q n => by rw [upd_ne (ne_of_none q h)]; exact s.at_ _ _ q n, fun P t => (s.tab P t).write hD hn⟩
/-- written back -/
theorem same_back {H H' : Hp} {D : Addr} {o u : HO} (hD : H D = some o) (s : Same (upd H D u) H') (hD' : H' D = some u) (hn : nC o = true := by rfl) (hu : nC u = true := by rfl) : Same H (upd H' D o) :=
  ⟨fun b o' q n => by
    by_cases e : b = D
    · subst e
      rw [hD] at q
      rw [upd_same]
      exact q
    · rw [upd_ne e]
      exact s.at_ _ _ (by rw [upd_ne e]; exact q) n, fun P t => (s.tab P (t.write hD hn)).write hD' hu⟩

/-! ### data in the heap -/
/-- a dict's key as data -/
def keyD : Key → PyData
  | .inl i => .int i
  | .inr x => .str x
mutual
inductive Rp (H : Hp) : V → PyData → Prop
  | non : Rp H .non .none
  | bl (b : Bool) : Rp H (.bl b) (.bool b)
  | int (i : Int) : Rp H (.int i) (.int i)
  | str (x : Str) : Rp H (.str x) (.str x)
  | lst {a : Addr} {xs : List V} {ds : List PyData} : H a = some (.lst xs) → RpA H xs ds → Rp H (.ref a) (.list ds)
  | tup {a : Addr} {xs : List V} {ds : List PyData} : H a = some (.tup xs) → RpA H xs ds → Rp H (.ref a) (.tuple ds)
  | dct {a : Addr} {kvs : List (Key × V)} {ds : List (PyData × PyData)} : Rd H a (.dK kvs) → RpD H kvs ds → Rp H (.ref a) (.dict ds)
inductive RpD (H : Hp) : List (Key × V) → List (PyData × PyData) → Prop
  | nil : RpD H [] []
  | cons {k : Key} {v : V} {kvs : List (Key × V)} {d : PyData} {ds : List (PyData × PyData)} : Rp H v d → RpD H kvs ds → RpD H ((k, v) :: kvs) ((keyD k, d) :: ds)
inductive RpA (H : Hp) : List V → List PyData → Prop
  | nil : RpA H [] []
  | cons {v : V} {vs : List V} {d : PyData} {ds : List PyData} : Rp H v d → RpA H vs ds → RpA H (v :: vs) (d :: ds)
end
mutual
theorem Rp.mono {H H' : Hp} (e : Same H H') : ∀ {v : V} {d : PyData}, Rp H v d → Rp H' v d
  | _, _, .non => .non
  | _, _, .bl b => .bl b
  | _, _, .int i => .int i
  | _, _, .str x => .str x
  | _, _, .lst h r => .lst (e _ _ h) (RpA.mono e r)
  | _, _, .tup h r => .tup (e _ _ h) (RpA.mono e r)
  | _, _, .dct h r => .dct (h.imp (fun q => e _ _ q) fun ⟨o, q⟩ => ⟨o, e _ _ q⟩) (RpD.mono e r)
theorem RpD.mono {H H' : Hp} (e : Same H H') : ∀ {v : List (Key × V)} {d : List (PyData × PyData)}, RpD H v d → RpD H' v d
  | _, _, .nil => .nil
  | _, _, .cons h r => .cons (h.mono e) (r.mono e)
theorem RpA.mono {H H' : Hp} (e : Same H H') : ∀ {v : List V} {d : List PyData}, RpA H v d → RpA H' v d
  | _, _, .nil => .nil
  | _, _, .cons h r => .cons (h.mono e) (r.mono e)
end
mutual
theorem Rp.dp {K : PySem.W.Frag} {H : Hp} : ∀ {v : V} {d : PyData}, Rp H v d → d.canLay0 = true → Dp K H v d
  | _, _, .non, _ => .non
  | _, _, .bl b, _ => .bl b
  | _, _, .int i, _ => .int i
  | _, _, .str x, _ => .str x
  | _, _, .lst h r, c => .lst (SqL.of h) (RpA.dp r (by simpa [PyData.canLay0] using c))
  | _, _, .tup h r, c => .tup (SqT.of h) (RpA.dp r (by simpa [PyData.canLay0] using c))
  | _, _, .dct _ _, c => by simp [PyData.canLay0] at c
theorem RpA.dp {K : PySem.W.Frag} {H : Hp} : ∀ {v : List V} {d : List PyData}, RpA H v d → PyData.canLayAll0 d = true → DpAll K H v d
  | _, _, .nil, _ => .nil
  | _, _, .cons (d := d) (ds := ds) h r, c => by
    have z : d.canLay0 = true ∧ PyData.canLayAll0 ds = true := by simpa [PyData.canLayAll0] using c
    exact .cons (h.dp z.1) (r.dp z.2)
end
theorem RpA.length {H : Hp} : ∀ {vs : List V} {ds : List PyData}, RpA H vs ds → vs.length = ds.length
  | _, _, .nil => rfl
  | _, _, .cons _ r => congrArg (· + 1) r.length
theorem RpA.get {H : Hp} : ∀ {vs : List V} {ds : List PyData} {i : Nat} {v : V}, RpA H vs ds → vs[i]? = some v → ∃ d, ds[i]? = some d ∧ Rp H v d
  | _, _, _, _, .nil, e => by simp at e
  | _, _, 0, _, .cons (d := d) h _, e => by simp at e; subst e; exact ⟨d, rfl, h⟩
  | _, _, i + 1, v, .cons _ r, e => by
    obtain ⟨d, h1, h2⟩ := RpA.get (i := i) r (by simpa using e)
    exact ⟨d, by simpa using h1, h2⟩
theorem RpA.get' {H : Hp} {vs : List V} {ds : List PyData} {i : Nat} {d : PyData} (r : RpA H vs ds) (e : ds[i]? = some d) : ∃ v, vs[i]? = some v ∧ Rp H v d := by
  have h1 := (List.getElem?_eq_some_iff.mp e).1
  rw [← r.length] at h1
  obtain ⟨d', q1, q2⟩ := r.get (List.getElem?_eq_getElem h1)
  rw [e] at q1
  cases q1
  exact ⟨_, List.getElem?_eq_getElem h1, q2⟩
theorem RpA.append {H : Hp} : ∀ {vs ws : List V} {ds es : List PyData}, RpA H vs ds → RpA H ws es → RpA H (vs ++ ws) (ds ++ es)
  | _, _, _, _, .nil, s => s
  | _, _, _, _, .cons h r, s => .cons h (r.append s)
theorem RpA.ints {H : Hp} : ∀ (ns : List Int), RpA H (ns.map V.int) (ns.map PyData.int)
  | [] => .nil
  | n :: ns => .cons (.int n) (RpA.ints ns)
theorem RpA.ints_inv {H : Hp} : ∀ {vs : List V} {ns : List Int}, RpA H vs (ns.map PyData.int) → vs = ns.map V.int
  | _, [], .nil => rfl
  | _, n :: ns, .cons (.int _) r => by rw [RpA.ints_inv r] <;> rfl
theorem RpA.bls_inv {H : Hp} : ∀ {vs : List V} {ns : List Bool}, RpA H vs (ns.map PyData.bool) → vs = ns.map V.bl
  | _, [], .nil => rfl
  | _, n :: ns, .cons (.bl _) r => by rw [RpA.bls_inv r] <;> rfl
theorem RpA.perm {H : Hp} {vs ws : List V} (p : ws.Perm vs) : ∀ {ds : List PyData}, RpA H vs ds → ∃ es, es.Perm ds ∧ RpA H ws es := by
  induction p with
  | nil => intro ds h; exact ⟨ds, List.Perm.refl _, h⟩
  | cons x p ih => intro ds h; cases h with | cons h r => obtain ⟨es, q, z⟩ := ih r; exact ⟨_ :: es, q.cons _, .cons h z⟩
  | swap x y l => intro ds h; cases h with | cons h r => cases r with | cons h' r => exact ⟨_ :: _ :: _, List.Perm.swap _ _ _, .cons h' (.cons h r)⟩
  | trans p1 p2 ih1 ih2 => intro ds h; obtain ⟨es, q, z⟩ := ih2 h; obtain ⟨fs, q', z'⟩ := ih1 z; exact ⟨fs, q'.trans q, z'⟩
theorem same_upd {H : Hp} {p : Addr} {o : HO} (h : H p = none) : Same H (upd H p o) := Same.of fun b u q => by rw [upd_ne (ne_of_none q h)]; exact q

/-! ### what an expression is worth -/
def DP {I : Type} (X : I → Cx) (σ : St) (H : Hp) (e : Expr) (Φ : PyData → Prop) : Prop :=
  ∀ H1 (Q : VK), Same H H1 → (∀ v H2 d, Same H1 H2 → Rp H2 v d → Φ d → Q v H2) → uE X e σ H1 Q
abbrev DE {I : Type} (X : I → Cx) (σ : St) (H : Hp) (e : Expr) (d : PyData) : Prop := DP X σ H e (fun x => x = d)
def DT {I : Type} (X : I → Cx) (σ : St) (H : Hp) (e : Expr) (Φ : Bool → Prop) : Prop :=
  ∀ H1 (Q : Bool → Hp → Prop), Same H H1 → (∀ b H2, Same H1 H2 → Φ b → Q b H2) → uT X e σ H1 Q
abbrev DB {I : Type} (X : I → Cx) (σ : St) (H : Hp) (e : Expr) (b : Bool) : Prop := DT X σ H e (fun x => x = b)
def DA {I : Type} (X : I → Cx) (σ : St) (H : Hp) (es : List Expr) (Φ : List PyData → Prop) : Prop :=
  ∀ H1 (Q : List V → Hp → Prop), Same H H1 → (∀ vs H2 ds, Same H1 H2 → RpA H2 vs ds → Φ ds → Q vs H2) → uA X es σ H1 Q
abbrev DL {I : Type} (X : I → Cx) (σ : St) (H : Hp) (es : List Expr) (ds : List PyData) : Prop := DA X σ H es (fun x => x = ds)

section
variable {I : Type} {X : I → Cx} {σ : St} {H H' : Hp} {e a b : Expr} {es : List Expr} {pos : Pos}
theorem DP.mono {Φ Ψ : PyData → Prop} (h : DP X σ H e Φ) (f : ∀ d, Φ d → Ψ d) : DP X σ H e Ψ := fun H1 Q s k => h H1 Q s fun v H2 d s2 r p => k v H2 d s2 r (f d p)
theorem DT.mono {Φ Ψ : Bool → Prop} (h : DT X σ H e Φ) (f : ∀ d, Φ d → Ψ d) : DT X σ H e Ψ := fun H1 Q s k => h H1 Q s fun v H2 s2 p => k v H2 s2 (f v p)
theorem DP.ext {Φ : PyData → Prop} (h : DP X σ H e Φ) (s : Same H H') : DP X σ H' e Φ := fun H1 Q s1 k => h H1 Q (s.trans s1) k
theorem DT.ext {Φ : Bool → Prop} (h : DT X σ H e Φ) (s : Same H H') : DT X σ H' e Φ := fun H1 Q s1 k => h H1 Q (s.trans s1) k
theorem DA.ext {Φ : List PyData → Prop} (h : DA X σ H es Φ) (s : Same H H') : DA X σ H' es Φ := fun H1 Q s1 k => h H1 Q (s.trans s1) k
/-- one goes on with what came -/
theorem DP.use {Φ : PyData → Prop} (h : DP X σ H e Φ) {Q : VK} (k : ∀ v H2 d, Same H H2 → Rp H2 v d → Φ d → Q v H2) : uE X e σ H Q := h H Q (Same.refl H) k
theorem DT.use {Φ : Bool → Prop} (h : DT X σ H e Φ) {Q : Bool → Hp → Prop} (k : ∀ b H2, Same H H2 → Φ b → Q b H2) : uT X e σ H Q := h H Q (Same.refl H) k

/-! #### names and constants -/
theorem de_val {v : V} {d : PyData} (p : ∀ i, PE (X i) e (tC v)) (r : Rp H v d) : DE X σ H e d := fun H1 Q s k => ⟨_, p, k v H1 d (Same.refl _) (r.mono s) rfl⟩
theorem de_var {i : Nat} {v : V} {d : PyData} (p : ∀ i', PE (X i') e (tVar i)) (hv : σ[i]? = some (some v)) (r : Rp H v d) : DE X σ H e d := fun H1 Q s k => ⟨_, p, v, hv, k v H1 d (Same.refl _) (r.mono s) rfl⟩
theorem de_int {i : Int} {j} : DE X σ H (.Constant (.int i) j pos) (.int i) := de_val (fun _ => pe_int) (.int i)
theorem de_bl {i : Bool} {j} : DE X σ H (.Constant (.bool i) j pos) (.bool i) := de_val (fun _ => pe_bl) (.bl i)
theorem de_str {i : Str} {j} : DE X σ H (.Constant (.str i) j pos) (.str i) := de_val (fun _ => pe_str) (.str i)
theorem de_non {j} : DE X σ H (.Constant .none j pos) .none := de_val (fun _ => pe_non) .non

/-! #### argument lists, displays -/
theorem da_nil : DL X σ H [] [] := fun H1 Q s k => ⟨_, fun _ => pa_nil, k [] H1 [] (Same.refl _) .nil rfl⟩
theorem da_cons {Φ : PyData → Prop} {Ψ : List PyData → Prop} (h : DP X σ H e Φ) (t : DA X σ H es Ψ) (hs : ∀ i, starEach (e :: es) (X i).env = (false, eval e (X i).env) :: starEach es (X i).env := by intro _; rfl) :
    DA X σ H (e :: es) (fun ds => ∃ d r, ds = d :: r ∧ Φ d ∧ Ψ r) := fun H1 Q s k =>
  ⟨_, fun i => pa_cons (pe_u i) (pa_u i) (hs i), h H1 _ s fun v H2 d s2 r p => t H2 _ (s.trans s2) fun vs H3 ds s3 rs ps => k _ H3 (d :: ds) (s2.trans s3) (.cons (r.mono s3) rs) ⟨d, ds, rfl, p, ps⟩⟩
theorem dl_cons {d : PyData} {ds : List PyData} (h : DE X σ H e d) (t : DL X σ H es ds) (hs : ∀ i, starEach (e :: es) (X i).env = (false, eval e (X i).env) :: starEach es (X i).env := by intro _; rfl) : DL X σ H (e :: es) (d :: ds) := fun H1 Q s k =>
  da_cons h t hs H1 Q s fun vs H2 ds' s2 r q => k vs H2 ds' s2 r (by obtain ⟨d', r', e1, e2, e3⟩ := q; rw [e1, e2, e3])
theorem dp_tup {x1} {Ψ : List PyData → Prop} (h : DA X σ H es Ψ) (hz : ∀ ds, Ψ ds → ds.length ≤ sizeLine) : DP X σ H (.Tuple es x1 pos) (fun d => ∃ ds, d = .tuple ds ∧ Ψ ds) := fun H1 Q s k =>
  ⟨_, fun i => pe_tup (pa_u i), h H1 _ s fun vs H2 ds s2 r p => ⟨by rw [r.length]; exact hz ds p, fun q hq => k _ _ _ (s2.trans (same_upd hq)) (.tup upd_same (r.mono (same_upd hq))) ⟨ds, rfl, p⟩⟩⟩
theorem dp_lst {Ψ : List PyData → Prop} (h : DA X σ H es Ψ) (hz : ∀ ds, Ψ ds → ds.length ≤ sizeLine) : DP X σ H (.List es pos) (fun d => ∃ ds, d = .list ds ∧ Ψ ds) := fun H1 Q s k =>
  ⟨_, fun i => pe_lst (pa_u i), h H1 _ s fun vs H2 ds s2 r p => ⟨by rw [r.length]; exact hz ds p, fun q hq => k _ _ _ (s2.trans (same_upd hq)) (.lst upd_same (r.mono (same_upd hq))) ⟨ds, rfl, p⟩⟩⟩
theorem de_tup {x1} {ds : List PyData} (h : DL X σ H es ds) (hz : ds.length ≤ sizeLine := by exact Nat.le_of_lt (small1000 (by decide))) : DE X σ H (.Tuple es x1 pos) (.tuple ds) :=
  (dp_tup h fun _ e => by rw [e]; exact hz).mono fun d ⟨_, e1, e2⟩ => by rw [e1, e2]
theorem de_lst {ds : List PyData} (h : DL X σ H es ds) (hz : ds.length ≤ sizeLine := by exact Nat.le_of_lt (small1000 (by decide))) : DE X σ H (.List es pos) (.list ds) :=
  (dp_lst h fun _ e => by rw [e]; exact hz).mono fun d ⟨_, e1, e2⟩ => by rw [e1, e2]

/-! #### operators of two values -/
/-- r gives f of the data -/
def OpD (r : R2) (d1 d2 d : PyData) : Prop := ∀ (v w : V) (H : Hp) (Q : VK), Rp H v d1 → Rp H w d2 → (∀ u H', Same H H' → Rp H' u d → Q u H') → r v w H Q
theorem de_op2 {op : Operator} {r : R2} {d1 d2 d : PyData} (ho : ∀ i, OpR (X i) (binaryOp op) r) (hd : OpD r d1 d2 d) (ha : DE X σ H a d1) (hb : DE X σ H b d2) : DE X σ H (.BinOp a op b pos) d := fun H1 Q s k =>
  ⟨_, fun i => pe_op (ho i) (pe_u i) (pe_u i), ha H1 _ s fun v H2 x s2 r2 e2 => hb H2 _ (s.trans s2) fun w H3 y s3 r3 e3 => by
    subst e2 e3
    exact hd v w H3 Q (r2.mono s3) r3 fun u H4 s4 r4 => k u H4 d (s2.trans (s3.trans s4)) r4 rfl⟩
theorem de_cmp {op : CmpOp} {r : R2} {d1 d2 d : PyData} (ho : ∀ i, OpR (X i) (compareOp op) r) (hd : OpD r d1 d2 d) (ha : DE X σ H a d1) (hb : DE X σ H b d2) (hm : behindInMarks op b = false) : DE X σ H (.Compare a [op] [b] pos) d := fun H1 Q s k =>
  ⟨_, fun i => pe_cmpR (ho i) (pe_u i) (pe_u i) hm, ha H1 _ s fun v H2 x s2 r2 e2 => hb H2 _ (s.trans s2) fun w H3 y s3 r3 e3 => by
    subst e2 e3
    exact hd v w H3 Q (r2.mono s3) r3 fun u H4 s4 r4 => k u H4 d (s2.trans (s3.trans s4)) r4 rfl⟩
theorem db_cmp {op : CmpOp} {r : R2} {d1 d2 : PyData} {c : Bool} (ho : ∀ i, OpR (X i) (compareOp op) r) (hd : OpD r d1 d2 (.bool c)) (ha : DE X σ H a d1) (hb : DE X σ H b d2) (hm : behindInMarks op b = false) : DB X σ H (.Compare a [op] [b] pos) c := fun H1 Q s k =>
  ⟨_, fun i => pt_cmpR (ho i) (pe_u i) (pe_u i) hm, ha H1 _ s fun v H2 x s2 r2 e2 => hb H2 _ (s.trans s2) fun w H3 y s3 r3 e3 => by
    subst e2 e3
    exact hd v w H3 _ (r2.mono s3) r3 fun u H4 s4 r4 => by cases r4; exact ⟨c, rfl, k c H4 (s2.trans (s3.trans s4)) rfl⟩⟩
theorem od_I0 {g : Int → Int → V} {i j : Int} {d : PyData} (h : ∀ H, Rp H (g i j) d) : OpD (rI0 g) (.int i) (.int j) d := fun v w H Q r1 r2 k => by
  cases r1; cases r2; exact ⟨i, j, rfl, rfl, k _ H (Same.refl _) (h H)⟩
theorem od_I {C : Int → Int → Prop} {g : Int → Int → V} {i j : Int} {d : PyData} (c : C i j) (h : ∀ H, Rp H (g i j) d) : OpD (rI C g) (.int i) (.int j) d := fun v w H Q r1 r2 k => by
  cases r1; cases r2; exact ⟨i, j, rfl, rfl, c, k _ H (Same.refl _) (h H)⟩
theorem de_add {i j : Int} (ha : DE X σ H a (.int i)) (hb : DE X σ H b (.int j)) : DE X σ H (.BinOp a .Add b pos) (.int (i + j)) := de_op2 (fun _ => op_add) (od_I0 fun _ => .int _) ha hb
theorem de_sub {i j : Int} (ha : DE X σ H a (.int i)) (hb : DE X σ H b (.int j)) : DE X σ H (.BinOp a .Sub b pos) (.int (i - j)) := de_op2 (fun _ => op_sub) (od_I0 fun _ => .int _) ha hb
theorem de_mul {i j : Int} (ha : DE X σ H a (.int i)) (hb : DE X σ H b (.int j)) (h : CMul i j) : DE X σ H (.BinOp a .Mult b pos) (.int (i * j)) := de_op2 (fun _ => op_mul) (od_I h fun _ => .int _) ha hb
theorem de_mod {i j : Int} (ha : DE X σ H a (.int i)) (hb : DE X σ H b (.int j)) (h : 0 < j) : DE X σ H (.BinOp a .Mod b pos) (.int (i % j)) := de_op2 (fun _ => op_mod) (od_I h fun _ => .int _) ha hb
theorem de_div {i j : Int} (ha : DE X σ H a (.int i)) (hb : DE X σ H b (.int j)) (h : CDiv i j) : DE X σ H (.BinOp a .FloorDiv b pos) (.int (i / j)) := de_op2 (fun _ => op_fdiv) (od_I h fun _ => .int _) ha hb
theorem db_lt {i j : Int} (ha : DE X σ H a (.int i)) (hb : DE X σ H b (.int j)) : DB X σ H (.Compare a [.Lt] [b] pos) (decide (i < j)) := db_cmp (fun _ => op_lt) (od_I0 fun _ => .bl _) ha hb (nomark _)
theorem db_le {i j : Int} (ha : DE X σ H a (.int i)) (hb : DE X σ H b (.int j)) : DB X σ H (.Compare a [.LtE] [b] pos) (decide (i ≤ j)) := db_cmp (fun _ => op_le) (od_I0 fun _ => .bl _) ha hb (nomark _)
theorem db_gt {i j : Int} (ha : DE X σ H a (.int i)) (hb : DE X σ H b (.int j)) : DB X σ H (.Compare a [.Gt] [b] pos) (decide (j < i)) := db_cmp (fun _ => op_gt) (od_I0 fun _ => .bl _) ha hb (nomark _)
theorem db_ge {i j : Int} (ha : DE X σ H a (.int i)) (hb : DE X σ H b (.int j)) : DB X σ H (.Compare a [.GtE] [b] pos) (decide (j ≤ i)) := db_cmp (fun _ => op_ge) (od_I0 fun _ => .bl _) ha hb (nomark _)
theorem de_lt {i j : Int} (ha : DE X σ H a (.int i)) (hb : DE X σ H b (.int j)) : DE X σ H (.Compare a [.Lt] [b] pos) (.bool (decide (i < j))) := de_cmp (fun _ => op_lt) (od_I0 fun _ => .bl _) ha hb (nomark _)
theorem de_gt {i j : Int} (ha : DE X σ H a (.int i)) (hb : DE X σ H b (.int j)) : DE X σ H (.Compare a [.Gt] [b] pos) (.bool (decide (j < i))) := de_cmp (fun _ => op_gt) (od_I0 fun _ => .bl _) ha hb (nomark _)
theorem de_ge {i j : Int} (ha : DE X σ H a (.int i)) (hb : DE X σ H b (.int j)) : DE X σ H (.Compare a [.GtE] [b] pos) (.bool (decide (j ≤ i))) := de_cmp (fun _ => op_ge) (od_I0 fun _ => .bl _) ha hb (nomark _)
/-- low <= value <= high, of ints -/
theorem de_chain {i j k : Int} {c : Expr} (ha : DE X σ H a (.int i)) (hb : DE X σ H b (.int j)) (hc : DE X σ H c (.int k)) (hm : lastMarks [.LtE, .LtE] [b, c] = false := by with_unfolding_all rfl) : DE X σ H (.Compare a [.LtE, .LtE] [b, c] pos) (.bool (decide (i ≤ j) && decide (j ≤ k))) := fun H1 Q s q =>
  ⟨_, fun i => pe_chain op_le op_le (pe_u i) (pe_u i) (pe_u i) hm, ha H1 _ s fun v H2 x s2 r2 e2 => hb H2 _ (s.trans s2) fun w H3 y s3 r3 e3 => by
    subst e2 e3
    cases r2; cases r3
    refine ⟨i, j, rfl, rfl, _, rfl, ?_⟩
    by_cases h : i ≤ j
    · refine ite2 (fun _ => ?_) (fun n => absurd (decide_eq_true h) n)
      refine hc H3 _ (s.trans (s2.trans s3)) fun u H4 z s4 r4 e4 => ?_
      subst e4
      cases r4
      exact ⟨j, k, rfl, rfl, q _ _ _ (s2.trans (s3.trans s4)) (.bl _) (by rw [decide_eq_true h, Bool.true_and])⟩
    · refine ite2 (fun n => absurd (of_decide_eq_true n) h) (fun _ => ?_)
      exact q _ _ _ (s2.trans s3) (.bl _) (by rw [decide_eq_false h, Bool.false_and])⟩

/-! #### equality of data -/
def flatD : PyData → Bool
  | .none => true | .bool _ => true | .int _ => true | .str _ => true | _ => false
theorem od_eqD {K : PySem.W.Frag} {d1 d2 : PyData} (h1 : SeqAt.shaped d1 = true) (h2 : SeqAt.shaped d2 = true) : OpD (rEqD K) d1 d2 (.bool (PyData.eqv d1 d2)) := fun v w H Q r1 r2 k => ⟨d1, d2, r1.dp (SeqAt.canLay_of_shaped h1), r2.dp (SeqAt.canLay_of_shaped h2), h1, h2, k _ H (Same.refl _) (.bl _)⟩
theorem od_neD {K : PySem.W.Frag} {d1 d2 : PyData} (h1 : SeqAt.shaped d1 = true) (h2 : SeqAt.shaped d2 = true) : OpD (rNeD K) d1 d2 (.bool (!PyData.eqv d1 d2)) := fun v w H Q r1 r2 k => ⟨d1, d2, r1.dp (SeqAt.canLay_of_shaped h1), r2.dp (SeqAt.canLay_of_shaped h2), h1, h2, k _ H (Same.refl _) (.bl _)⟩
theorem de_eqD {d1 d2 : PyData} {K : PySem.W.Frag} (hu : ∀ i, (X i).K = K ∧ (X i).A.units + 64 < cLine) (ha : DE X σ H a d1) (hb : DE X σ H b d2) (h1 : SeqAt.shaped d1 = true) (h2 : SeqAt.shaped d2 = true) : DE X σ H (.Compare a [.Eq] [b] pos) (.bool (PyData.eqv d1 d2)) := de_cmp (fun i => (hu i).1 ▸ op_eqD (hu i).2) (od_eqD h1 h2) ha hb (nomark _)
theorem db_eqD {d1 d2 : PyData} {K : PySem.W.Frag} (hu : ∀ i, (X i).K = K ∧ (X i).A.units + 64 < cLine) (ha : DE X σ H a d1) (hb : DE X σ H b d2) (h1 : SeqAt.shaped d1 = true) (h2 : SeqAt.shaped d2 = true) : DB X σ H (.Compare a [.Eq] [b] pos) (PyData.eqv d1 d2) := db_cmp (fun i => (hu i).1 ▸ op_eqD (hu i).2) (od_eqD h1 h2) ha hb (nomark _)
theorem de_neD {d1 d2 : PyData} {K : PySem.W.Frag} (hu : ∀ i, (X i).K = K ∧ (X i).A.units + 64 < cLine) (ha : DE X σ H a d1) (hb : DE X σ H b d2) (h1 : SeqAt.shaped d1 = true) (h2 : SeqAt.shaped d2 = true) : DE X σ H (.Compare a [.NotEq] [b] pos) (.bool (!PyData.eqv d1 d2)) := de_cmp (fun i => (hu i).1 ▸ op_neD (hu i).2) (od_neD h1 h2) ha hb (nomark _)
theorem db_neD {d1 d2 : PyData} {K : PySem.W.Frag} (hu : ∀ i, (X i).K = K ∧ (X i).A.units + 64 < cLine) (ha : DE X σ H a d1) (hb : DE X σ H b d2) (h1 : SeqAt.shaped d1 = true) (h2 : SeqAt.shaped d2 = true) : DB X σ H (.Compare a [.NotEq] [b] pos) (!PyData.eqv d1 d2) := db_cmp (fun i => (hu i).1 ▸ op_neD (hu i).2) (od_neD h1 h2) ha hb (nomark _)
end
end SW

set_option Elab.async false
set_option linter.all false
set_option maxRecDepth 100000
set_option maxHeartbeats 2000000
/-! Sw1: truth, calls, what is walked, comprehensions, statements. -/
namespace SW
open PySem L2
variable [Nm]
section
variable {I : Type} {X : I → Cx} {σ : St} {H H' : Hp} {e a b c : Expr} {es rest : List Expr} {pos : Pos}

/-! #### and, or, not -/
theorem de_one {op} {d : PyData} (h : DE X σ H a d) : DE X σ H (.BoolOp op [a] pos) d := fun H1 Q s k => ⟨_, fun i => pe_one (pe_u i), h H1 Q s k⟩
theorem de_and {p q : Bool} (ha : DE X σ H a (.bool p)) (hb : p = true → DE X σ H (.BoolOp .And (b :: rest) pos) (.bool q)) : DE X σ H (.BoolOp .And (a :: b :: rest) pos) (.bool (p && q)) := fun H1 Q s k =>
  ⟨_, fun i => pe_and (pe_u i) (pe_u i), ha H1 _ s fun v H2 d s2 r e2 => by
    subst e2; cases r
    refine ⟨p, rfl, ?_⟩
    cases p with
    | true => exact iteT ((hb rfl) H2 Q (s.trans s2) fun v H3 d s3 r e3 => k v H3 d (s2.trans s3) r (by rw [e3, Bool.true_and]))
    | false => exact iteF (k _ H2 _ s2 (.bl false) (by rw [Bool.false_and]))⟩
theorem de_or {p q : Bool} (ha : DE X σ H a (.bool p)) (hb : p = false → DE X σ H (.BoolOp .Or (b :: rest) pos) (.bool q)) : DE X σ H (.BoolOp .Or (a :: b :: rest) pos) (.bool (p || q)) := fun H1 Q s k =>
  ⟨_, fun i => pe_or (pe_u i) (pe_u i), ha H1 _ s fun v H2 d s2 r e2 => by
    subst e2; cases r
    refine ⟨p, rfl, ?_⟩
    cases p with
    | true => exact iteT (k _ H2 _ s2 (.bl true) (by rw [Bool.true_or]))
    | false => exact iteF ((hb rfl) H2 Q (s.trans s2) fun v H3 d s3 r e3 => k v H3 d (s2.trans s3) r (by rw [e3, Bool.false_or]))⟩
theorem de_not {p : Bool} (ha : DE X σ H a (.bool p)) : DE X σ H (.UnaryOp .Not a pos) (.bool (!p)) := fun H1 Q s k =>
  ⟨_, fun i => pe_not (pe_u i), ha H1 _ s fun v H2 d s2 r e2 => by subst e2; cases r; exact ⟨p, rfl, k _ H2 _ s2 (.bl _) rfl⟩⟩
def DW {I : Type} (X : I → Cx) (σ : St) (H : Hp) (e : Expr) (Φ : Bool → Prop) : Prop :=
  ∀ H1 (Q : Bool → Hp → Prop), Same H H1 → (∀ b H2, Same H1 H2 → Φ b → Q b H2) → uW X e σ H1 Q
theorem dt_w {Φ : Bool → Prop} (h : DW X σ H e Φ) : DT X σ H e Φ := fun H1 Q s k => ⟨_, fun i => (pw_u i).pt, h H1 Q s k⟩
theorem dw_and1 {Φ : Bool → Prop} (h : DT X σ H a Φ) : DW X σ H (.BoolOp .And [a] pos) Φ := fun H1 Q s k => ⟨_, fun i => pw_and1 (pt_u i), h H1 Q s k⟩
theorem dw_or1 {Φ : Bool → Prop} (h : DT X σ H a Φ) : DW X σ H (.BoolOp .Or [a] pos) Φ := fun H1 Q s k => ⟨_, fun i => pw_or1 (pt_u i), h H1 Q s k⟩
theorem dw_and {Φ Ψ Θ : Bool → Prop} (ha : DT X σ H a Φ) (hb : Φ true → DW X σ H (.BoolOp .And (b :: rest) pos) Ψ) (h1 : Φ false → Θ false) (h2 : ∀ k, Φ true → Ψ k → Θ k) : DW X σ H (.BoolOp .And (a :: b :: rest) pos) Θ := fun H1 Q s k =>
  ⟨_, fun i => pw_and (pt_u i) (pw_u i), ha H1 _ s fun v H2 s2 e2 => by
    cases v with
    | true => exact iteT ((hb e2) H2 Q (s.trans s2) fun v H3 s3 e3 => k v H3 (s2.trans s3) (h2 v e2 e3))
    | false => exact iteF (k _ H2 s2 (h1 e2))⟩
theorem dw_or {Φ Ψ Θ : Bool → Prop} (ha : DT X σ H a Φ) (hb : Φ false → DW X σ H (.BoolOp .Or (b :: rest) pos) Ψ) (h1 : Φ true → Θ true) (h2 : ∀ k, Φ false → Ψ k → Θ k) : DW X σ H (.BoolOp .Or (a :: b :: rest) pos) Θ := fun H1 Q s k =>
  ⟨_, fun i => pw_or (pt_u i) (pw_u i), ha H1 _ s fun v H2 s2 e2 => by
    cases v with
    | true => exact iteT (k _ H2 s2 (h1 e2))
    | false => exact iteF ((hb e2) H2 Q (s.trans s2) fun v H3 s3 e3 => k v H3 (s2.trans s3) (h2 v e2 e3))⟩
theorem db_and {p q : Bool} (ha : DB X σ H a p) (hb : p = true → DW X σ H (.BoolOp .And (b :: rest) pos) (fun x => x = q)) : DW X σ H (.BoolOp .And (a :: b :: rest) pos) (fun x => x = (p && q)) :=
  dw_and ha (fun h => hb h.symm) (fun h => by rw [← h, Bool.false_and]) fun k h1 h2 => by rw [← h1, h2, Bool.true_and]
theorem db_or {p q : Bool} (ha : DB X σ H a p) (hb : p = false → DW X σ H (.BoolOp .Or (b :: rest) pos) (fun x => x = q)) : DW X σ H (.BoolOp .Or (a :: b :: rest) pos) (fun x => x = (p || q)) :=
  dw_or ha (fun h => hb h.symm) (fun h => by rw [← h, Bool.true_or]) fun k h1 h2 => by rw [← h1, h2, Bool.false_or]
theorem dt_not {Φ : Bool → Prop} (h : DT X σ H a Φ) : DT X σ H (.UnaryOp .Not a pos) (fun k => Φ (!k)) := fun H1 Q s k =>
  ⟨_, fun i => pt_not (pt_u i), h H1 _ s fun v H2 s2 e2 => k _ H2 s2 (by show Φ (!(!v)); rw [Bool.not_not]; exact e2)⟩
theorem db_not {p : Bool} (h : DB X σ H a p) : DB X σ H (.UnaryOp .Not a pos) (!p) := (dt_not h).mono fun k e => by rw [← e, Bool.not_not]
/-- a value True or False, as a test -/
theorem dt_val {Φ : Bool → Prop} (h : DP X σ H e (fun d => ∃ k, d = .bool k ∧ Φ k)) (he : ∀ i whole, isTrue e (X i).env whole = (do let v ← whole; standAt e.pos; holding [v] (truthy v)) := by intro _ _; rfl) : DT X σ H e Φ := fun H1 Q s k =>
  ⟨_, fun i => pt_val (pe_u i) (he i), h H1 _ s fun v H2 d s2 r e2 => by
    obtain ⟨q, e3, f⟩ := e2
    subst e3
    cases r
    exact ⟨q, rfl, k q H2 s2 f⟩⟩
theorem db_val {p : Bool} (h : DE X σ H e (.bool p)) (he : ∀ i whole, isTrue e (X i).env whole = (do let v ← whole; standAt e.pos; holding [v] (truthy v)) := by intro _ _; rfl) : DB X σ H e p := dt_val (h.mono fun d e => ⟨p, e, rfl⟩) he
theorem dp_ifExp {Φ : Bool → Prop} {Ψ : PyData → Prop} (hc : DT X σ H c Φ) (ha : Φ true → DP X σ H a Ψ) (hb : Φ false → DP X σ H b Ψ) : DP X σ H (.IfExp c a b pos) Ψ := fun H1 Q s k =>
  ⟨_, fun i => pe_ifExp (pt_u i) (pe_u i) (pe_u i), hc H1 _ s fun v H2 s2 e2 => by
    cases v with
    | true => exact iteT (ha e2 H2 Q (s.trans s2) fun v H3 d s3 r f => k v H3 d (s2.trans s3) r f)
    | false => exact iteF (hb e2 H2 Q (s.trans s2) fun v H3 d s3 r f => k v H3 d (s2.trans s3) r f)⟩
def isNon : PyData → Bool
  | .none => true
  | _ => false
theorem de_is_non {d : PyData} (ha : DE X σ H a d) {j pos'} : DE X σ H (.Compare a [.Is] [.Constant .none j pos'] pos) (.bool (isNon d)) := fun H1 Q s k =>
  ⟨_, fun i => pe_cmp (pc_isN (pe_u i)), ha H1 _ s fun v H2 x s2 r e2 => by
    subst e2
    refine k _ H2 _ s2 (.bl _) ?_
    cases r <;> rfl⟩
theorem od_is_bl {p q : Bool} : OpD (fun x y H Q => ∃ a b, x = .bl a ∧ y = .bl b ∧ Q (.bl (decide (a = b))) H) (.bool p) (.bool q) (.bool (decide (p = q))) := fun v w H Q r1 r2 k => by
  cases r1; cases r2; exact ⟨p, q, rfl, rfl, k _ H (Same.refl _) (.bl _)⟩
theorem od_isnot_bl {p q : Bool} : OpD (fun x y H Q => ∃ a b, x = .bl a ∧ y = .bl b ∧ Q (.bl (!decide (a = b))) H) (.bool p) (.bool q) (.bool (!decide (p = q))) := fun v w H Q r1 r2 k => by
  cases r1; cases r2; exact ⟨p, q, rfl, rfl, k _ H (Same.refl _) (.bl _)⟩
theorem db_isnot_bl {p q : Bool} (ha : DE X σ H a (.bool p)) (hb : DE X σ H b (.bool q)) : DB X σ H (.Compare a [.IsNot] [b] pos) (!decide (p = q)) := db_cmp (fun _ => op_isnot_bl) od_isnot_bl ha hb (nomark _)

/-! #### calls -/
/-- a def's promise, by data -/
def spF (pre : List PyData → Prop) (post : List PyData → PyData → Prop) (n : Nat) : Sp := fun vs H Q _ => vs.length = n ∧ ∃ ds, RpA H vs ds ∧ pre ds ∧ ∀ v H' d, Same H H' → Rp H' v d → post ds d → Q v H'
/-- a def of the module's, with its promise -/
def Fn (P : Program) (w : World) (K : PySem.W.Frag) (mg : Str → Option Value) (base : Heap) (k : Nat) (x : Str) (ps : List Str) (sp : Sp) : Prop :=
  ∃ f fd, FnOk P w K mg base CX0 k f fd ps sp ∧ mg x = some (.ref f) ∧ PySem.W.keepIn K (.ref f) = true ∧ Binds K fd ps []
theorem Fn.up {P : Program} {w : World} {K : PySem.W.Frag} {mg : Str → Option Value} {base : Heap} {k j : Nat} {x : Str} {ps : List Str} {sp : Sp} (h : Fn P w K mg base k x ps sp) (hk : k ≤ j) : Fn P w K mg base j x ps sp := by
  obtain ⟨f, fd, F, r⟩ := h
  exact ⟨f, fd, F.mono hk, r⟩
/-- where one stands -/
structure At (X : Cx) (P : Program) (w : World) (K : PySem.W.Frag) (mg : Str → Option Value) (base : Heap) (k : Nat) : Prop where
  prog : X.prog = P
  w : X.w = w
  K : X.K = K
  mg : X.mg = mg
  base : X.base = base
  calm : X.calm = true
  room : Room k X.A
variable {P : Program} {w : World} {K : PySem.W.Frag} {mg : Str → Option Value} {base : Heap} {k : Nat} {x : Str} {p : Pos} {ps : List Str}
theorem At.mono {X : Cx} {j : Nat} (h : At X P w K mg base k) (hj : j ≤ k) : At X P w K mg base j := ⟨h.prog, h.w, h.K, h.mg, h.base, h.calm, h.room.mono hj⟩
theorem At.hu {X : Cx} (h : At X P w K mg base k) : X.K = K ∧ X.A.units + 64 < cLine := ⟨h.K, h.room.units⟩
/-- f(e, ..) -/
theorem ue_call {sp : Sp} (hA : ∀ i, At (X i) P w K mg base k) (hf : Fn P w K mg base k x ps sp) {t : TA} {E : XK} {Q : VK} (ha : ∀ i, PA (X i) (e :: es) t) (h : t σ H fun vs H1 => sp vs H1 Q E0) (hg : ∀ i, Gl (X i) x := by intro _; rfl)
    (hdb : (x == ("__debug__" : Str)) = false := by decide) (he : ∀ i, starEach (e :: es) (X i).env = (false, eval e (X i).env) :: starEach es (X i).env := by intro _; rfl) (hpl : ∀ i, (backTo pos (starEach es (X i).env)).any (·.1) = false := by intro _; rfl) :
    uE X (.Call (.Name x p) (e :: es) [] pos) σ H Q := by
  obtain ⟨f, fd, F, hm, hk, hb⟩ := hf
  refine ⟨tCall sp [] E0 t, fun i => ?_, ?_⟩
  · obtain ⟨rfl, rfl, rfl, rfl, rfl, _, hr⟩ := hA i
    exact pe_call F hr (hg i) hm hk hb .nil pass0 (ha i) hdb (he i) (hpl i)
  · show t σ H fun vs H1 => sp (vs ++ []) H1 Q E0
    have q : (fun vs H1 => sp (vs ++ []) H1 Q E0) = fun vs H1 => sp vs H1 Q E0 := by funext vs H1; rw [List.append_nil]
    rw [q]
    exact h
theorem dp_call {pre : List PyData → Prop} {post : List PyData → PyData → Prop} {n : Nat} {Ψ : List PyData → Prop} {Φ : PyData → Prop} (hA : ∀ i, At (X i) P w K mg base k) (hf : Fn P w K mg base k x ps (spF pre post n)) (ha : DA X σ H (e :: es) Ψ)
    (hp : ∀ ds, Ψ ds → ds.length = n ∧ pre ds ∧ ∀ d, post ds d → Φ d) (hg : ∀ i, Gl (X i) x := by intro _; rfl)
    (hdb : (x == ("__debug__" : Str)) = false := by decide) (he : ∀ i, starEach (e :: es) (X i).env = (false, eval e (X i).env) :: starEach es (X i).env := by intro _; rfl) (hpl : ∀ i, (backTo pos (starEach es (X i).env)).any (·.1) = false := by intro _; rfl) :
    DP X σ H (.Call (.Name x p) (e :: es) [] pos) Φ := fun H1 Q s q =>
  ue_call (E := E0) hA hf pa_u (ha H1 _ s fun vs H2 ds s2 r f => by
    obtain ⟨h1, h2, h3⟩ := hp ds f
    exact ⟨by rw [r.length, h1], ds, r, h2, fun v H' d s3 r3 f3 => q v H' d (s2.trans s3) r3 (h3 d f3)⟩) hg hdb he hpl
theorem de_call {pre : List PyData → Prop} {post : List PyData → PyData → Prop} {n : Nat} {ds : List PyData} {d : PyData} (hA : ∀ i, At (X i) P w K mg base k) (hf : Fn P w K mg base k x ps (spF pre post n)) (ha : DL X σ H (e :: es) ds)
    (hp : pre ds) (hd : ∀ d', post ds d' → d' = d) (hn : ds.length = n := by rfl) (hg : ∀ i, Gl (X i) x := by intro _; rfl)
    (hdb : (x == ("__debug__" : Str)) = false := by decide) (he : ∀ i, starEach (e :: es) (X i).env = (false, eval e (X i).env) :: starEach es (X i).env := by intro _; rfl) (hpl : ∀ i, (backTo pos (starEach es (X i).env)).any (·.1) = false := by intro _; rfl) :
    DE X σ H (.Call (.Name x p) (e :: es) [] pos) d := dp_call hA hf ha (fun ds' e1 => by subst e1; exact ⟨hn, hp, hd⟩) hg hdb he hpl

/-! #### built-ins -/
def CallD (r : List V → Hp → VK → Prop) (ds : List PyData) (Φ : PyData → Prop) : Prop := ∀ (vs : List V) (H : Hp) (Q : VK), RpA H vs ds → (∀ u H' d, Same H H' → Rp H' u d → Φ d → Q u H') → r vs H Q
theorem dp_callB {r : List V → Hp → VK → Prop} {id : String} {Ψ : List PyData → Prop} {Φ : PyData → Prop} (hA : ∀ i, At (X i) P w K mg base k) (hc : ∀ i, CallR (X i) (.builtin id) r) (hm : mg x = none) (hv : bootBuiltins x = some (.builtin id)) (ha : DA X σ H (e :: es) Ψ)
    (hr : ∀ ds, Ψ ds → CallD r ds Φ) (hg : ∀ i, Gl (X i) x := by intro _; rfl) (hn : x ≠ "__name__" := by decide) (hdb : (x == ("__debug__" : Str)) = false := by decide)
    (he : ∀ i, starEach (e :: es) (X i).env = (false, eval e (X i).env) :: starEach es (X i).env := by intro _; rfl) (hpl : ∀ i, (backTo pos (starEach es (X i).env)).any (·.1) = false := by intro _; rfl) :
    DP X σ H (.Call (.Name x p) (e :: es) [] pos) Φ := fun H1 Q s q =>
  ⟨_, fun i => pe_callB (hc i) (hg i) (by rw [(hA i).mg]; exact hm) hv (pa_u i) hn hdb (he i) (hpl i), ha H1 _ s fun vs H2 ds s2 rr f => hr ds f vs H2 _ rr fun u H3 d s3 r3 f3 => q u H3 d (s2.trans s3) r3 f3⟩
theorem dp_callT {r : List V → Hp → VK → Prop} {id : String} {Ψ : List PyData → Prop} {Φ : PyData → Prop} (hA : ∀ i, At (X i) P w K mg base k) (hc : ∀ i, CallR (X i) (.type id) r) (hm : mg x = none) (hv : bootBuiltins x = some (.type id)) (ha : DA X σ H (e :: es) Ψ)
    (hr : ∀ ds, Ψ ds → CallD r ds Φ) (hg : ∀ i, Gl (X i) x := by intro _; rfl) (hn : x ≠ "__name__" := by decide) (hdb : (x == ("__debug__" : Str)) = false := by decide)
    (he : ∀ i, starEach (e :: es) (X i).env = (false, eval e (X i).env) :: starEach es (X i).env := by intro _; rfl) (hpl : ∀ i, (backTo pos (starEach es (X i).env)).any (·.1) = false := by intro _; rfl) :
    DP X σ H (.Call (.Name x p) (e :: es) [] pos) Φ := fun H1 Q s q =>
  ⟨_, fun i => pe_callTy (hc i) (hg i) (by rw [(hA i).mg]; exact hm) hv (pa_u i) hn hdb (he i) (hpl i), ha H1 _ s fun vs H2 ds s2 rr f => hr ds f vs H2 _ rr fun u H3 d s3 r3 f3 => q u H3 d (s2.trans s3) r3 f3⟩
theorem RpA.one {H : Hp} {vs : List V} {d : PyData} (r : RpA H vs [d]) : ∃ v, vs = [v] ∧ Rp H v d := by
  cases r with
  | cons h t => cases t; exact ⟨_, rfl, h⟩
theorem RpA.two {H : Hp} {vs : List V} {d d' : PyData} (r : RpA H vs [d, d']) : ∃ v v', vs = [v, v'] ∧ Rp H v d ∧ Rp H v' d' := by
  cases r with
  | cons h t => cases t with | cons h' t => cases t; exact ⟨_, _, rfl, h, h'⟩
theorem da1 {Φ : PyData → Prop} (h : DP X σ H e Φ) (hs : ∀ i, starEach (e :: []) (X i).env = (false, eval e (X i).env) :: starEach [] (X i).env := by intro _; rfl) : DA X σ H [e] (fun ds => ∃ d, ds = [d] ∧ Φ d) := fun H1 Q s k =>
  da_cons h da_nil hs H1 Q s fun vs H2 ds s2 r q => k vs H2 ds s2 r (by obtain ⟨d, r', e1, e2, e3⟩ := q; exact ⟨d, by rw [e1, e3], e2⟩)
theorem cd_len {ds : List PyData} {K : PySem.W.Frag} : CallD (fun xs H Q => ∃ p ys, xs = [.ref p] ∧ (SqL K H p ys ∨ SqT K H p ys) ∧ Q (.int ys.length) H) [.tuple ds] (fun d => d = .int ds.length) := fun vs H Q r q => by
  obtain ⟨v, rfl, rv⟩ := r.one
  cases rv with
  | tup h t => exact ⟨_, _, rfl, .inr (SqT.of h), q _ H _ (Same.refl _) (.int _) (by rw [t.length])⟩
theorem cd_lenL {ds : List PyData} {K : PySem.W.Frag} : CallD (fun xs H Q => ∃ p ys, xs = [.ref p] ∧ (SqL K H p ys ∨ SqT K H p ys) ∧ Q (.int ys.length) H) [.list ds] (fun d => d = .int ds.length) := fun vs H Q r q => by
  obtain ⟨v, rfl, rv⟩ := r.one
  cases rv with
  | lst h t => exact ⟨_, _, rfl, .inl (SqL.of h), q _ H _ (Same.refl _) (.int _) (by rw [t.length])⟩
theorem hK_len (hA : ∀ i, At (X i) P w K mg base k) (i : I) : CallR (X i) (.builtin "len") (fun xs H Q => ∃ p ys, xs = [.ref p] ∧ (SqL K H p ys ∨ SqT K H p ys) ∧ Q (.int ys.length) H) := by
  have h := call_len_seq (X := X i)
  rw [(hA i).K] at h
  exact h
theorem de_lenT {ds : List PyData} (hA : ∀ i, At (X i) P w K mg base k) (hm : mg "len" = none) (h : DE X σ H e (.tuple ds)) (hg : ∀ i, Gl (X i) "len" := by intro _; rfl) (ns : ∀ i, starEach (e :: []) (X i).env = (false, eval e (X i).env) :: starEach [] (X i).env := by intro _; rfl) : DE X σ H (.Call (.Name "len" p) [e] [] pos) (.int ds.length) :=
  dp_callB hA (hK_len hA) hm PySem.boot_len (da1 h ns) (fun _ ⟨d, e1, e2⟩ => by rw [e1, e2]; exact cd_len) hg (by decide) (by decide) ns (fun _ => rfl)
theorem de_lenL {ds : List PyData} (hA : ∀ i, At (X i) P w K mg base k) (hm : mg "len" = none) (h : DE X σ H e (.list ds)) (hg : ∀ i, Gl (X i) "len" := by intro _; rfl) (ns : ∀ i, starEach (e :: []) (X i).env = (false, eval e (X i).env) :: starEach [] (X i).env := by intro _; rfl) : DE X σ H (.Call (.Name "len" p) [e] [] pos) (.int ds.length) :=
  dp_callB hA (hK_len hA) hm PySem.boot_len (da1 h ns) (fun _ ⟨d, e1, e2⟩ => by rw [e1, e2]; exact cd_lenL) hg (by decide) (by decide) ns (fun _ => rfl)
theorem cd_tuple {ds : List PyData} {K : PySem.W.Frag} : CallD (fun xs H Q => ∃ p ys, xs = [.ref p] ∧ ((SqL K H p ys ∧ ∀ l, H l = none → Q (.ref l) (upd H l (.tup ys))) ∨ (SqT K H p ys ∧ Q (.ref p) H))) [.list ds] (fun d => d = .tuple ds) := fun vs H Q r q => by
  obtain ⟨v, rfl, rv⟩ := r.one
  cases rv with
  | lst h t => exact ⟨_, _, rfl, .inl ⟨SqL.of h, fun l hl => q _ _ _ (same_upd hl) (.tup upd_same (t.mono (same_upd hl))) rfl⟩⟩
theorem dp_tupleOf {Φ : List PyData → Prop} (hA : ∀ i, At (X i) P w K mg base k) (hm : mg "tuple" = none) (h : DP X σ H e (fun d => ∃ ds, d = .list ds ∧ Φ ds)) (hg : ∀ i, Gl (X i) "tuple" := by intro _; rfl) (ns : ∀ i, starEach (e :: []) (X i).env = (false, eval e (X i).env) :: starEach [] (X i).env := by intro _; rfl) : DP X σ H (.Call (.Name "tuple" p) [e] [] pos) (fun d => ∃ ds, d = .tuple ds ∧ Φ ds) :=
  dp_callT hA (fun i => (hA i).K ▸ call_tuple_of (X := X i)) hm (by decide +kernel) (da1 h ns) (fun _ ⟨d, e1, ds, e2, e3⟩ => by
    rw [e1, e2]
    intro vs H Q r q
    exact cd_tuple vs H Q r fun u H' d s r f => q u H' d s r ⟨ds, f, e3⟩) hg (by decide) (by decide) ns (fun _ => rfl)
theorem de_tupleOf {ds : List PyData} (hA : ∀ i, At (X i) P w K mg base k) (hm : mg "tuple" = none) (h : DE X σ H e (.list ds)) (hg : ∀ i, Gl (X i) "tuple" := by intro _; rfl) (ns : ∀ i, starEach (e :: []) (X i).env = (false, eval e (X i).env) :: starEach [] (X i).env := by intro _; rfl) : DE X σ H (.Call (.Name "tuple" p) [e] [] pos) (.tuple ds) :=
  (dp_tupleOf (Φ := fun x => x = ds) hA hm (h.mono fun d e => ⟨ds, e, rfl⟩) hg ns).mono fun d ⟨_, e1, e2⟩ => by rw [e1, e2]
theorem cd_all {bs : List Bool} {K : PySem.W.Frag} : CallD (rAll K) [.list (bs.map PyData.bool)] (fun d => d = .bool (bs.all id)) := fun vs H Q r q => by
  obtain ⟨v, rfl, rv⟩ := r.one
  cases rv with
  | lst h t => rw [t.bls_inv] at h; exact ⟨_, bs, rfl, SqL.of h, q _ H _ (Same.refl _) (.bl _) rfl⟩
theorem de_all {bs : List Bool} (hA : ∀ i, At (X i) P w K mg base k) (hm : mg "all" = none) (h : DE X σ H e (.list (bs.map PyData.bool))) (hg : ∀ i, Gl (X i) "all" := by intro _; rfl) (ns : ∀ i, starEach (e :: []) (X i).env = (false, eval e (X i).env) :: starEach [] (X i).env := by intro _; rfl) : DE X σ H (.Call (.Name "all" p) [e] [] pos) (.bool (bs.all id)) :=
  dp_callB hA (fun i => (hA i).K ▸ cr_all (X := X i) (hA i).calm) hm (by decide +kernel) (da1 h ns) (fun _ ⟨d, e1, e2⟩ => by rw [e1, e2]; exact cd_all) hg (by decide) (by decide) ns (fun _ => rfl)
theorem cd_gcd {a b : Int} : CallD rGcd [.int a, .int b] (fun d => d = .int ((Nat.gcd a.natAbs b.natAbs : Nat) : Int)) := fun vs H Q r q => by
  obtain ⟨v, v', rfl, r, r'⟩ := r.two
  cases r; cases r'
  exact ⟨a, b, rfl, q _ H _ (Same.refl _) (.int _) rfl⟩
theorem de_gcd {i j : Int} (hA : ∀ i, At (X i) P w K mg base k) (hm : mg "gcd" = some (.builtin "math.gcd")) (h : DE X σ H a (.int i)) (h' : DE X σ H b (.int j)) (hg : ∀ i, Gl (X i) "gcd" := by intro _; rfl)
    (hs : ∀ i, starEach [a, b] (X i).env = (false, eval a (X i).env) :: starEach [b] (X i).env := by intro _; rfl) (hs' : ∀ i, starEach [b] (X i).env = (false, eval b (X i).env) :: starEach [] (X i).env := by intro _; rfl)
    (hpl : ∀ i, (backTo pos (starEach [b] (X i).env)).any (·.1) = false := by intro _; rfl) :
    DE X σ H (.Call (.Name "gcd" p) [a, b] [] pos) (.int ((Nat.gcd i.natAbs j.natAbs : Nat) : Int)) := fun H1 Q s q =>
  ⟨_, fun i => pe_callBfun cr_gcd (hg i) (by rw [(hA i).mg]; exact hm) (pa_u i) (by decide) (hs i) (hpl i), dl_cons h (dl_cons h' da_nil hs') hs H1 _ s fun vs H2 ds s2 r e1 => by
    subst e1
    exact cd_gcd vs H2 _ r fun u H3 d s3 r3 f3 => q u H3 d (s2.trans s3) r3 f3⟩

/-! #### isinstance -/
def tyN : PyData → String
  | .none => "NoneType" | .bool _ => "bool" | .int _ => "int" | .str _ => "str" | .list _ => "list" | .tuple _ => "tuple" | .dict _ => "dict"
theorem tyX_of {v : V} {d : PyData} (r : Rp H v d) : TyX K H v (.type (tyN d)) := by
  cases r with
  | non => exact .base .non
  | bl b => exact .base (.bl b)
  | int i => exact .base (.int i)
  | str x => exact .base (.str x)
  | lst h _ => exact .base (.lst h)
  | tup h _ => exact .base (.tup h)
  | dct h _ =>
    rcases h with h | ⟨o, h⟩
    · exact .base (.dK h)
    · exact .fDict h
/-- (all data: a row that once told of dicts) -/
def noDict : PyData → Bool := fun _ => true
theorem Rp.nd {H : Hp} {v : V} {d : PyData} (r : Rp H v d) : noDict d = true := rfl
theorem de_isi {d : PyData} {T : String} {y : Str} {q : Bool} {p2 : Pos} (hA : ∀ i, At (X i) P w K mg base k) (hm : mg "isinstance" = none) (hy : mg y = none) (hv : bootBuiltins y = some (.type T)) (h : DE X σ H a d) (hq : noDict d = true → kitB (tyN d) T = some q)
    (hg : ∀ i, Gl (X i) "isinstance" := by intro _; rfl) (hg2 : ∀ i, Gl (X i) y := by intro _; rfl) (hn : y ≠ "__name__" := by decide) (hdb : (y == ("__debug__" : Str)) = false := by decide)
    (hs : ∀ i, starEach [a, .Name y p2] (X i).env = (false, eval a (X i).env) :: starEach [.Name y p2] (X i).env := by intro _; rfl) (hs' : ∀ i, starEach [.Name y p2] (X i).env = (false, eval (.Name y p2) (X i).env) :: starEach [] (X i).env := by intro _; rfl)
    (hpl : ∀ i, (backTo pos (starEach [.Name y p2] (X i).env)).any (·.1) = false := by intro _; rfl) :
    DE X σ H (.Call (.Name "isinstance" p) [a, .Name y p2] [] pos) (.bool q) := fun H1 Q s k =>
  ⟨_, fun i => pe_callB ((hA i).K ▸ call_isi) (hg i) (by rw [(hA i).mg]; exact hm) (by decide +kernel) (pa_cons (pe_u i) (pa_cons (pe_bltn (v := .ty T) (hg2 i) (by rw [(hA i).mg]; exact hy) hv rfl hn hdb) pa_nil (hs' i)) (hs i)) (by decide) (by decide) (hs i) (hpl i),
    h H1 _ s fun v H2 d' s2 r e => by subst e; exact ⟨v, .ty T, _, _, q, rfl, .ty T, tyX_of r, kit_ty (hq r.nd), k _ H2 _ s2 (.bl _) rfl⟩⟩
end
end SW

set_option Elab.async false
set_option linter.all false
set_option maxRecDepth 100000
set_option maxHeartbeats 2000000
/-! Sw2: what is walked, comprehensions, statements, a def's promise. -/
namespace SW
open PySem L2
variable [Nm]
/-- what stands, but for the hidden -/
def nX : HO → Bool
  | .ext _ => false
  | .tbl _ => false
  | _ => true
theorem nX_nT {o : HO} (h : nX o = true) : nT o = true := by cases o <;> first | rfl | cases h
def SameE (H H' : Hp) : Prop := ∀ b o, H b = some o → nX o = true → H' b = some o
theorem same_e {H H' : Hp} (s : Same H H') : SameE H H' := fun b o h n => s.at_ b o h (nX_nT n)
mutual
theorem Rp.monoE {H H' : Hp} (e : SameE H H') : ∀ {v : V} {d : PyData}, Rp H v d → Rp H' v d
  | _, _, .non => .non
  | _, _, .bl b => .bl b
  | _, _, .int i => .int i
  | _, _, .str x => .str x
  | _, _, .lst h r => .lst (e _ _ h rfl) (RpA.monoE e r)
  | _, _, .tup h r => .tup (e _ _ h rfl) (RpA.monoE e r)
  | _, _, .dct h r => .dct (h.imp (fun q => e _ _ q rfl) fun ⟨o, q⟩ => ⟨o, e _ _ q rfl⟩) (RpD.monoE e r)
theorem RpD.monoE {H H' : Hp} (e : SameE H H') : ∀ {v : List (Key × V)} {d : List (PyData × PyData)}, RpD H v d → RpD H' v d
  | _, _, .nil => .nil
  | _, _, .cons h r => .cons (h.monoE e) (r.monoE e)
theorem RpA.monoE {H H' : Hp} (e : SameE H H') : ∀ {v : List V} {d : List PyData}, RpA H v d → RpA H' v d
  | _, _, .nil => .nil
  | _, _, .cons h r => .cons (h.monoE e) (r.monoE e)
end
/-- nothing, or a hidden thing -/
def NoE (H : Hp) (D : Addr) : Prop := H D = none ∨ ∃ φ, H D = some (.ext φ)
theorem sameE_hide {H H' : Hp} {D : Addr} {u : HO} (s : SameE H H') (h : NoE H D) : SameE H (upd H' D u) := fun b o q n => by
  by_cases e : b = D
  · subst e
    rcases h with h | ⟨φ, h⟩
    · rw [h] at q; cases q
    · rw [h] at q; cases q; cases n
  · rw [upd_ne e]; exact s _ _ q n
/-- an iterator that yields just these data, whatever lies further in the heap -/
def Yld (J : It) (H : Hp) (ds : List PyData) : Prop := ∀ H', SameE H H' → ∀ i, (i < ds.length → J.go i H' ∧ ∀ x H'', J.yld i H' x H'' → Same H' H'' ∧ ∃ d, ds[i]? = some d ∧ Rp H'' x d ∧ ∀ D u, NoE H D → (∃ o, H' D = some o) → Rp (upd H'' D u) x d) ∧ (i = ds.length → J.stop i H')
def DI {I : Type} (X : I → Cx) (σ : St) (H : Hp) (tg e : Expr) (ds : List PyData) : Prop := ∀ H1 (R : It → Hp → Prop), Same H H1 → (∀ J H2, Same H1 H2 → Yld J H2 ds → ds.length ≤ sizeLine → R J H2) → uI X tg e σ H1 R
/-- lists and tuples are no longer than they may be -/
def LenOk (H : Hp) : Prop := ∀ a xs, H a = some (.lst xs) ∨ H a = some (.tup xs) → xs.length ≤ sizeLine
theorem inv_len {X : Cx} {pins : List (Addr × Obj)} {σ : St} {H : Hp} {s : Shared} (J : Inv X pins σ H s) : LenOk H := fun a xs h => by
  rcases h with h | h
  · exact (J.hok a _ h).1
  · exact (J.hok a _ h).1
theorem ui_len {I : Type} {X : I → Cx} {σ : St} {H : Hp} {tg e : Expr} {R : It → Hp → Prop} (h : uI X tg e σ H fun J H' => LenOk H' → R J H') : uI X tg e σ H R :=
  ⟨fun σ H R => uI X tg e σ H fun J H' => LenOk H' → R J H', fun i => ⟨fun pins s σ H R J hh => thn ((pi_u i).run pins s σ H _ J hh) fun v s1 q => thn q fun it s2 z => by
    obtain ⟨it', fp, tn, J', H', e1, I', T, t0, f, r⟩ := z
    exact ⟨it', fp, tn, J', H', e1, I', T, t0, f, r (inv_len I')⟩⟩, h⟩
/-- the ints from lo on, n of them -/
def rgD (lo : Int) (n : Nat) : List PyData := (List.range n).map fun (i : Nat) => PyData.int (lo + i)
theorem rgD_get {lo : Int} {n i : Nat} (h : i < n) : (rgD lo n)[i]? = some (.int (lo + i)) := by
  unfold rgD
  rw [List.getElem?_map, List.getElem?_range h] <;> rfl
theorem rgD_len {lo : Int} {n : Nat} : (rgD lo n).length = n := by unfold rgD; rw [List.length_map, List.length_range]
theorem yld_list {K : PySem.W.Frag} {H : Hp} {a : Addr} {xs : List V} {ds : List PyData} (h : H a = some (.lst xs)) (r : RpA H xs ds) : Yld (Itl K a) H ds := fun H' s i => by
  have q : SqL K H' a xs := SqL.of (s _ _ h rfl)
  refine ⟨fun hi => ?_, fun hi => ⟨xs, q, by rw [r.length]; omega⟩⟩
  obtain ⟨v, e1, e2⟩ := r.get' (List.getElem?_eq_getElem hi)
  refine ⟨⟨xs, v, q, e1⟩, fun x H'' y => ?_⟩
  obtain ⟨e, y⟩ := y
  subst e
  have z := (y xs q).symm.trans e1
  cases z
  exact ⟨Same.refl _, _, List.getElem?_eq_getElem hi, e2.monoE s, fun D u hD _ => e2.monoE (sameE_hide s hD)⟩
theorem yld_tup {K : PySem.W.Frag} {H : Hp} {a : Addr} {xs : List V} {ds : List PyData} (h : H a = some (.tup xs)) (r : RpA H xs ds) : Yld (Itt K a) H ds := fun H' s i => by
  have q : SqT K H' a xs := SqT.of (s _ _ h rfl)
  refine ⟨fun hi => ?_, fun hi => ⟨xs, q, by rw [r.length]; omega⟩⟩
  obtain ⟨v, e1, e2⟩ := r.get' (List.getElem?_eq_getElem hi)
  refine ⟨⟨xs, v, q, e1⟩, fun x H'' y => ?_⟩
  obtain ⟨e, y⟩ := y
  subst e
  have z := (y xs q).symm.trans e1
  cases z
  exact ⟨Same.refl _, _, List.getElem?_eq_getElem hi, e2.monoE s, fun D u hD _ => e2.monoE (sameE_hide s hD)⟩
theorem yld_rng {H : Hp} {lo : Int} {n : Nat} : Yld (Itr lo n) H (rgD lo n) := fun H' s i => by
  rw [rgD_len]
  refine ⟨fun hi => ⟨hi, fun x H'' y => ?_⟩, fun hi => by subst hi; exact Nat.le_refl _⟩
  obtain ⟨e, y⟩ := y
  subst e y
  exact ⟨Same.refl _, _, rgD_get hi, .int _, fun _ _ _ _ => .int _⟩
def pairD (d d' : PyData) : PyData := .tuple [d, d']
theorem zip_get {α β : Type} : ∀ {xs : List α} {ys : List β} {i : Nat} {x : α} {y : β}, xs[i]? = some x → ys[i]? = some y → (xs.zip ys)[i]? = some (x, y)
  | [], _, i, _, _, h, _ => by simp at h
  | _ :: _, [], i, _, _, _, h => by simp at h
  | _ :: _, _ :: _, 0, _, _, h, h' => by simp at h h'; subst h h'; rfl
  | _ :: xs, _ :: ys, i + 1, x, y, h, h' => by
    have q := zip_get (xs := xs) (ys := ys) (i := i) (x := x) (y := y) (by simpa using h) (by simpa using h')
    simpa using q
theorem yld_zipT {K : PySem.W.Frag} {H : Hp} {a b : Addr} {xs ys : List V} {ds es : List PyData} (h : H a = some (.tup xs)) (r : RpA H xs ds) (h' : H b = some (.tup ys)) (r' : RpA H ys es) : Yld (RZ.ItzT K a b) H ((ds.zip es).map fun p => pairD p.1 p.2) := fun H' s i => by
  have q : SqT K H' a xs := SqT.of (s _ _ h rfl)
  have q' : SqT K H' b ys := SqT.of (s _ _ h' rfl)
  rw [List.length_map, List.length_zip]
  refine ⟨fun hi => ?_, fun hi => ⟨xs, ys, q, q', by rw [r.length, r'.length]; omega⟩⟩
  obtain ⟨v, e1, e2⟩ := r.get' (List.getElem?_eq_getElem (show i < ds.length by omega))
  obtain ⟨v', e1', e2'⟩ := r'.get' (List.getElem?_eq_getElem (show i < es.length by omega))
  refine ⟨⟨xs, ys, v, v', q, q', e1, e1'⟩, fun x H'' y => ?_⟩
  obtain ⟨T, x1, y1, rfl, hT, rfl, f1, f2⟩ := y
  obtain rfl : x1 = v := Option.some.inj ((f1 xs q).symm.trans e1)
  obtain rfl : y1 = v' := Option.some.inj ((f2 ys q').symm.trans e1')
  refine ⟨same_upd hT, _, by rw [List.getElem?_map, zip_get (List.getElem?_eq_getElem (show i < ds.length by omega)) (List.getElem?_eq_getElem (show i < es.length by omega))] <;> rfl, .tup upd_same (.cons ((e2.monoE s).mono (same_upd hT)) (.cons ((e2'.monoE s).mono (same_upd hT)) .nil)), fun D u hD ho => ?_⟩
  have ne : T ≠ D := fun z => by obtain ⟨o, ho⟩ := ho; rw [← z, hT] at ho; cases ho
  have ss : SameE H (upd (upd H' T (.tup [x1, y1])) D u) := sameE_hide (fun b o q n => (same_upd hT).at_ _ _ (s _ _ q n) (nX_nT n)) hD
  exact .tup (by rw [upd_ne ne]; exact upd_same) (.cons (e2.monoE ss) (.cons (e2'.monoE ss) .nil))
section
variable {I : Type} {X : I → Cx} {σ : St} {H H' : Hp} {tg e a b c : Expr} {es rest : List Expr} {pos : Pos}
variable {P : Program} {w : World} {K : PySem.W.Frag} {mg : Str → Option Value} {base : Heap} {k : Nat} {x : Str} {p : Pos} {ps : List Str}
theorem di_list {ds : List PyData} (hA : ∀ i, At (X i) P w K mg base k) (h : DE X σ H e (.list ds)) : DI X σ H tg e ds := fun H1 R s q => ui_len
  ⟨iList K (uE X e), fun i => (hA i).K ▸ pi_list (pe_u i), h H1 _ s fun v H2 d s2 r e1 => by
    subst e1
    cases r with
    | lst hh t => exact ⟨_, rfl, ⟨_, SqL.of hh⟩, fun lk => q _ H2 s2 (yld_list hh t) (by rw [← t.length]; exact lk _ _ (.inl hh))⟩⟩
theorem di_tup {ds : List PyData} (hA : ∀ i, At (X i) P w K mg base k) (h : DE X σ H e (.tuple ds)) : DI X σ H tg e ds := fun H1 R s q => ui_len
  ⟨iTup K (uE X e), fun i => (hA i).K ▸ pi_tup (pe_u i), h H1 _ s fun v H2 d s2 r e1 => by
    subst e1
    cases r with
    | tup hh t => exact ⟨_, rfl, ⟨_, SqT.of hh⟩, fun lk => q _ H2 s2 (yld_tup hh t) (by rw [← t.length]; exact lk _ _ (.inr hh))⟩⟩
theorem di_rng1 {n : Int} (hA : ∀ i, At (X i) P w K mg base k) (hm : mg "range" = none) (h : DE X σ H a (.int n)) (hn : -1000 ≤ n ∧ n ≤ 1000) (hg : ∀ i, Gl (X i) "range" := by intro _; rfl)
    (ns : ∀ i, starEach [a] (X i).env = (false, eval a (X i).env) :: starEach [] (X i).env := by intro _; rfl) : DI X σ H tg (.Call (.Name "range" p) [a] [] pos) (rgD 0 n.toNat) := fun H1 R s q =>
  ⟨iRng1 (uA X [a]), fun i => pi_range1 (hg i) (by rw [(hA i).mg]; exact hm) (pa_u i) (ns i), (dl_cons h da_nil ns) H1 _ s fun vs H2 ds s2 r e1 => by
    subst e1
    obtain ⟨v, rfl, rv⟩ := r.one
    cases rv
    exact ⟨n, rfl, by omega, by omega, q _ H2 s2 yld_rng (by rw [rgD_len]; exact Nat.le_of_lt (small1000 (by omega)))⟩⟩
theorem di_rng2 {lo hi : Int} (hA : ∀ i, At (X i) P w K mg base k) (hm : mg "range" = none) (h : DE X σ H a (.int lo)) (h' : DE X σ H b (.int hi)) (hn : -400 ≤ lo ∧ lo ≤ 400 ∧ -400 ≤ hi ∧ hi ≤ 400) (hg : ∀ i, Gl (X i) "range" := by intro _; rfl)
    (ns : ∀ i, starEach [a, b] (X i).env = (false, eval a (X i).env) :: starEach [b] (X i).env := by intro _; rfl) (ns' : ∀ i, starEach [b] (X i).env = (false, eval b (X i).env) :: starEach [] (X i).env := by intro _; rfl) : DI X σ H tg (.Call (.Name "range" p) [a, b] [] pos) (rgD lo (hi - lo).toNat) := fun H1 R s q =>
  ⟨iRng2 (uA X [a, b]), fun i => pi_range2 (hg i) (by rw [(hA i).mg]; exact hm) (pa_u i) (by rw [ns i, ns' i] <;> rfl) (ns' i), (dl_cons h (dl_cons h' da_nil ns') ns) H1 _ s fun vs H2 ds s2 r e1 => by
    subst e1
    obtain ⟨v, v', rfl, rv, rv'⟩ := r.two
    cases rv; cases rv'
    exact ⟨lo, hi, rfl, ⟨by omega, by omega, by omega, by omega⟩, q _ H2 s2 yld_rng (by rw [rgD_len]; exact Nat.le_of_lt (small1000 (by omega)))⟩⟩
theorem di_zipT {ds es : List PyData} {elts : List Expr} {kk : Nat} {tpos : Pos} (hA : ∀ i, At (X i) P w K mg base k) (hm : mg "zip" = none) (h : DE X σ H a (.tuple ds)) (h' : DE X σ H b (.tuple es)) (hg : ∀ i, Gl (X i) "zip" := by intro _; rfl)
    (ns : ∀ i, starEach [a, b] (X i).env = (false, eval a (X i).env) :: starEach [b] (X i).env := by intro _; rfl) (ns' : ∀ i, starEach [b] (X i).env = (false, eval b (X i).env) :: starEach [] (X i).env := by intro _; rfl)
    (hpl : ∀ i, (backTo pos (starEach [b] (X i).env)).any (·.1) = false := by intro _; rfl) : DI X σ H (.Tuple elts kk tpos) (.Call (.Name "zip" p) [a, b] [] pos) ((ds.zip es).map fun p => pairD p.1 p.2) := fun H1 R s q => ui_len
  ⟨RZ.iZipA K (uA X [a, b]), fun i => (hA i).K ▸ RZ.pi_zipA (hg i) (by rw [(hA i).mg]; exact hm) (pa_u i) (ns i) (hpl i), (dl_cons h (dl_cons h' da_nil ns') ns) H1 _ s fun vs H2 ds s2 r e1 => by
    subst e1
    obtain ⟨v, v', rfl, rv, rv'⟩ := r.two
    cases rv with
    | tup hh t => cases rv' with
      | tup hh' t' => exact ⟨_, _, _, _, rfl, .inr ⟨SqT.of hh, SqT.of hh', fun lk => q _ H2 s2 (yld_zipT hh t hh' t') (by
        have z := lk _ _ (.inr hh)
        rw [List.length_map, List.length_zip, ← t.length]
        omega)⟩⟩⟩

/-! #### targets: what a store of d makes of the slots -/
def TgD (g : TG) (σ : St) (d : PyData) (S : St → Hp → Prop) : Prop := ∀ x H Hh (Q : St → Hp → Prop), (∀ a xs, Hh a = some (.tup xs) → H a = some (.tup xs)) → Rp Hh x d → (∀ σ2, S σ2 Hh → Q σ2 H) → g x σ H Q
theorem tg_name {i : Nat} {d : PyData} : TgD (gName i) σ d (fun σ2 H => ∃ v, Rp H v d ∧ σ2 = σ.set i (some v)) := fun x H Hh Q _ r q => q _ ⟨x, r, rfl⟩
theorem tg_two {i j : Nat} {d d' : PyData} : TgD (gTup K 2 (gCons (gName i) (gCons (gName j) gNil))) σ (.tuple [d, d']) (fun σ2 H => ∃ v v', Rp H v d ∧ Rp H v' d' ∧ σ2 = (σ.set i (some v)).set j (some v')) := fun x H Hh Q hh r q => by
  cases r with
  | tup h t =>
    obtain ⟨v, v', rfl, r1, r2⟩ := t.two
    exact ⟨_, _, rfl, SqT.of (hh _ _ h), rfl, v, [v'], rfl, v', [], rfl, rfl, q _ ⟨v, v', r1, r2, rfl⟩⟩

/-! #### a list that is hidden for a while -/
def uTs {I : Type} (X : I → Cx) (ifs : List Expr) : TT := fun σ H Q => ∃ t, (∀ i, PTs (X i) ifs t) ∧ t σ H Q
theorem pts_u {ifs : List Expr} (i : I) : PTs (X i) ifs (uTs X ifs) := ⟨fun _ _ _ _ _ I h => let ⟨_, p, q⟩ := h; (p i).run _ _ _ _ _ I q⟩
def Lph (D : Addr) (vs : List V) : Heap → Prop := fun h => vs.length ≤ sizeLine ∧ ∃ (its : List Value) (n : Nat), Vals vs its ∧ h.get? D = some { cls := .type "list", data := .seq its.toArray n }
theorem inv_hide {X : Cx} {pins : List (Addr × Obj)} {s : Shared} {D : Addr} {vs : List V} (J : Inv X pins σ H s) (h : H D = some (.lst vs)) : Inv X pins σ (upd H D (.ext (Lph D vs))) s := by
  obtain ⟨hz, its, n, rv, ho⟩ := J.hok D _ h
  refine J.write (e := D) (h' := s.heap) (t' := s.toks) (by rw [h]; trivial) (.inl rfl) (fun b u _ q => q) ⟨_, ho⟩ ⟨⟨hz, its, n, rv, ho⟩, ⟨_, ho⟩, fun h1 h2 p k => ?_⟩
  obtain ⟨a, its, n, c, d⟩ := p
  exact ⟨a, its, n, c, k _ d⟩
theorem inv_show {X : Cx} {pins : List (Addr × Obj)} {s : Shared} {D : Addr} {vs : List V} (J : Inv X pins σ H s) (h : H D = some (.ext (Lph D vs))) : Inv X pins σ (upd H D (.lst vs)) s := by
  obtain ⟨⟨hz, its, n, rv, ho⟩, _⟩ := J.hok D _ h
  exact J.write (e := D) (h' := s.heap) (t' := s.toks) (by rw [h]; trivial) (.inl rfl) (fun b u _ q => q) ⟨_, ho⟩ ⟨hz, its, n, rv, ho⟩
theorem ue_hide {D : Addr} {vs : List V} {Q : VK} (h : H D = some (.lst vs)) (q : uE X e σ (upd H D (.ext (Lph D vs))) fun v H' => H' D = some (.ext (Lph D vs)) ∧ Q v (upd H' D (.lst vs))) : uE X e σ H Q := by
  refine ⟨fun σ H Q => ∃ vs, H D = some (.lst vs) ∧ uE X e σ (upd H D (.ext (Lph D vs))) fun v H' => H' D = some (.ext (Lph D vs)) ∧ Q v (upd H' D (.lst vs)), fun i => ⟨fun pins s σ H Q J hh => ?_⟩, ⟨vs, h, q⟩⟩
  obtain ⟨vs, h1, h2⟩ := hh
  refine thn ((pe_u i).run pins s σ _ _ (inv_hide J h1) h2) fun v s' ⟨v', H', J', r, h3, h4⟩ => ⟨v', _, inv_show J' h3, r, h4⟩
theorem uts_hide {ifs : List Expr} {D : Addr} {vs : List V} {Q : Bool → Hp → Prop} (h : H D = some (.lst vs)) (q : uTs X ifs σ (upd H D (.ext (Lph D vs))) fun v H' => H' D = some (.ext (Lph D vs)) ∧ Q v (upd H' D (.lst vs))) : uTs X ifs σ H Q := by
  refine ⟨fun σ H Q => ∃ vs, H D = some (.lst vs) ∧ uTs X ifs σ (upd H D (.ext (Lph D vs))) fun v H' => H' D = some (.ext (Lph D vs)) ∧ Q v (upd H' D (.lst vs)), fun i => ⟨fun pins s σ H Q J hh => ?_⟩, ⟨vs, h, q⟩⟩
  obtain ⟨vs, h1, h2⟩ := hh
  refine thn ((pts_u i).run pins s σ _ _ (inv_hide J h1) h2) fun v s' ⟨H', J', h3, h4⟩ => ⟨_, inv_show J' h3, h4⟩
/-- but for D -/
def SameX (D : Addr) (H H' : Hp) : Prop := ∀ b o, b ≠ D → H b = some o → nT o = true → H' b = some o
mutual
theorem Rp.monoX {H H' : Hp} {D : Addr} {φ : Heap → Prop} (hD : H D = some (.ext φ)) (e : SameX D H H') : ∀ {v : V} {d : PyData}, Rp H v d → Rp H' v d
  | _, _, .non => .non
  | _, _, .bl b => .bl b
  | _, _, .int i => .int i
  | _, _, .str x => .str x
  | _, _, .lst h r => .lst (e _ _ (fun z => by rw [z, hD] at h; cases h) h rfl) (RpA.monoX hD e r)
  | _, _, .tup h r => .tup (e _ _ (fun z => by rw [z, hD] at h; cases h) h rfl) (RpA.monoX hD e r)
  | _, _, .dct h r => .dct (h.imp (fun q => e _ _ (fun z => by rw [z, hD] at q; cases q) q rfl) fun ⟨o, q⟩ => ⟨o, e _ _ (fun z => by rw [z, hD] at q; cases q) q rfl⟩) (RpD.monoX hD e r)
theorem RpD.monoX {H H' : Hp} {D : Addr} {φ : Heap → Prop} (hD : H D = some (.ext φ)) (e : SameX D H H') : ∀ {v : List (Key × V)} {d : List (PyData × PyData)}, RpD H v d → RpD H' v d
  | _, _, .nil => .nil
  | _, _, .cons h r => .cons (h.monoX hD e) (r.monoX hD e)
theorem RpA.monoX {H H' : Hp} {D : Addr} {φ : Heap → Prop} (hD : H D = some (.ext φ)) (e : SameX D H H') : ∀ {v : List V} {d : List PyData}, RpA H v d → RpA H' v d
  | _, _, .nil => .nil
  | _, _, .cons h r => .cons (h.monoX hD e) (r.monoX hD e)
end

/-! #### comprehensions -/
/-- the contexts of a comprehension's block -/
def blkF {I : Type} (X : I → Cx) (scope : Scope) : (I × Shared × Hp × Addr × List (Str × Addr) × List Addr) → Cx := fun t => (X t.1).blk t.2.1 t.2.2.1 scope (compEnvC scope t.2.2.2.2.1 t.2.2.2.1 (X t.1).env) t.2.2.2.2.2
theorem at_blk {scope : Scope} (hA : ∀ i, At (X i) P w K mg base k) : ∀ i, At (blkF X scope i) P w K mg base k := fun i => ⟨(hA i.1).prog, (hA i.1).w, (hA i.1).K, (hA i.1).mg, (hA i.1).base, (hA i.1).calm, (hA i.1).room⟩
/-- a clause's tests -/
def DTs {I : Type} (X : I → Cx) (σ : St) (H : Hp) (ifs : List Expr) (Φ : Bool → Prop) : Prop :=
  ∀ H1 (Q : Bool → Hp → Prop), Same H H1 → (∀ b H2, Same H1 H2 → Φ b → Q b H2) → ∃ t : TT, (∀ i, PTs (X i) ifs t) ∧ t σ H1 Q
theorem dts_nil : DTs X σ H [] (fun b => b = true) := fun H1 Q s k => ⟨tYes, fun _ => pts_nil, k true H1 (Same.refl _) rfl⟩
theorem dts_one {Φ : Bool → Prop} (h : DT X σ H c Φ) : DTs X σ H [c] Φ := fun H1 Q s k => ⟨_, fun i => pts_one (pt_u i), h H1 Q s k⟩

theorem lc_sem {elt : Expr} {ifs : List Expr} {scope : Scope} {own : List (Str × Nat)} {g : TG} {ds : List PyData} (src : DI X σ H tg e ds) (Pv : Nat → List PyData → Prop) (h0 : Pv 0 [])
    (step : ∀ i d acc, ds[i]? = some d → Pv i acc → ∃ S, TgD g (wipe σ (own.map (·.2))) d S ∧ ∀ H' σ2, Same H H' → S σ2 H' → wipe σ2 (own.map (·.2)) = wipe σ (own.map (·.2)) ∧ ∃ Φ : Bool → Prop, DTs (blkF X scope) σ2 H' ifs Φ ∧
      (Φ false → Pv (i + 1) acc) ∧ (Φ true → ∃ Ψ, DP (blkF X scope) σ2 H' elt Ψ ∧ ∀ y, Ψ y → Pv (i + 1) (acc ++ [y]))) :
    ∀ (H1 : Hp) (Q : VK), Same H H1 → (∀ v H2 d, Same H1 H2 → Rp H2 v d → (∃ acc, d = .list acc ∧ Pv ds.length acc) → Q v H2) → tLc (uI X tg e) g (uTs (blkF X scope) ifs) (uE (blkF X scope) elt) (own.map (·.2)) σ H1 Q := fun H1 Q s q => by
  refine src H1 _ s fun J H2 s2 y hlen D hD => ?_
  refine ⟨fun i m H' => m = ds.length - i ∧ i ≤ ds.length ∧ ∃ vs acc, H' D = some (.lst vs) ∧ RpA (upd H' D (.ext (Lph D vs))) vs acc ∧ acc.length ≤ i ∧ Pv i acc ∧ Same H2 H', ⟨ds.length, by simp, Nat.zero_le _, [], [], upd_same, .nil, Nat.le_refl _, h0, same_upd hD⟩, ?_⟩
  rintro i m H3 ⟨rfl, hi, vs, acc, hD3, ra, hl, pv, s3⟩
  obtain ⟨y1, y2⟩ := y H3 (same_e s3) i
  rcases Nat.lt_or_ge i ds.length with hlt | hge
  · refine .inr ⟨(y1 hlt).1, ?_⟩
    obtain ⟨d, hd⟩ : ∃ d, ds[i]? = some d := ⟨_, List.getElem?_eq_getElem hlt⟩
    refine ⟨fun H' => i + 1 ≤ ds.length ∧ ∃ vs acc, H' D = some (.lst vs) ∧ RpA (upd H' D (.ext (Lph D vs))) vs acc ∧ acc.length ≤ i + 1 ∧ Pv (i + 1) acc ∧ Same H2 H', fun H' n => ⟨ds.length - (i + 1), by omega, rfl, n⟩, fun x H4 yx => ?_⟩
    obtain ⟨s4, d', hd', _, rx⟩ := (y1 hlt).2 x H4 yx
    obtain rfl : d = d' := Option.some.inj (hd.symm.trans hd')
    have hD4 : H4 D = some (.lst vs) := s4 _ _ hD3
    have s24 := same_hide (u := .ext (Lph D vs)) (s3.trans s4) hD hD4
    obtain ⟨S, hS, rest⟩ := step i d acc hd pv
    refine hS x H4 (upd H4 D (.ext (Lph D vs))) _ (fun a xs q => ?_) (rx D _ (.inl hD) ⟨_, hD3⟩) fun σ2 hσ => ?_
    · have ne : a ≠ D := fun z => by rw [z, upd_same] at q; cases q
      rwa [upd_ne ne] at q
    obtain ⟨hw, Φ, ht, h1, h2⟩ := rest _ σ2 (s.trans (s2.trans s24)) hσ
    refine ⟨hw, uts_hide hD4 (ht _ _ (Same.refl _) fun c H5 s5 hc => ⟨s5 _ _ upd_same, ?_⟩)⟩
    have hD5 : H5 D = some (.ext (Lph D vs)) := s5 _ _ upd_same
    have s25 : Same H2 H5 := s24.trans s5
    have ra5 : RpA H5 vs acc := ra.monoX upd_same fun b o hb q n => s5.at_ _ _ (by rw [upd_ne hb] at q ⊢; exact s4.at_ _ _ q n) n
    cases c with
    | false =>
      refine iteF ⟨hlt, vs, acc, upd_same, ?_, by omega, h1 hc, same_hide s25 hD hD5⟩
      exact ra5.monoX hD5 fun b o hb q n => by rw [upd_ne hb, upd_ne hb]; exact q
    | true =>
      obtain ⟨Ψ, he, h3⟩ := h2 hc
      refine iteT (ue_hide upd_same ?_)
      have s5' : Same H5 (upd (upd H5 D (.lst vs)) D (.ext (Lph D vs))) := Same.of fun b o q => by
        rw [upd_upd]
        by_cases hb : b = D
        · subst hb; rw [hD5] at q; rw [upd_same]; exact q
        · rw [upd_ne hb]; exact q
      refine he _ _ (s5.trans s5') fun yv H6 yd s6 ry fy => ?_
      have hD6 : H6 D = some (.ext (Lph D vs)) := s6 _ _ upd_same
      have hlv : vs.length < sizeLine := by rw [ra.length]; omega
      refine ⟨hD6, vs, upd_same, hlv, hlt, vs ++ [yv], acc ++ [yd], upd_same, ?_, by rw [List.length_append, List.length_singleton]; omega, h3 yd fy, ?_⟩
      · have mv : SameX D H6 (upd (upd (upd H6 D (.lst vs)) D (.lst (vs ++ [yv]))) D (.ext (Lph D (vs ++ [yv])))) := fun b o hb q n => by rw [upd_ne hb, upd_ne hb, upd_ne hb]; exact q
        exact ((ra5.mono (s5'.trans s6)).monoX hD6 mv).append (.cons (ry.monoX hD6 mv) .nil)
      · exact same_hide (same_hide (s25.trans (s5'.trans s6)) hD hD6) hD upd_same
  · have e1 : i = ds.length := by omega
    subst e1
    exact .inl ⟨y2 rfl, q (.ref D) H3 _ (s2.trans s3) (.lst hD3 (ra.monoX upd_same fun b o hb q n => by rw [upd_ne hb] at q; exact q)) ⟨acc, rfl, pv⟩⟩
theorem dp_lc {elt : Expr} {ifs : List Expr} {scope : Scope} {own : List (Str × Nat)} {g : TG} {ds : List PyData} (hA : ∀ i, At (X i) P w K mg base k) (hN : ∀ i, (X i).N.Nodup) (ok : ∀ i, BlkOk (X i).N (X i).env.scope scope own)
    (hg : ∀ i, PG (blkF X scope i) tg g) (src : DI X σ H tg e ds) (Pv : Nat → List PyData → Prop) (h0 : Pv 0 [])
    (step : ∀ i d acc, ds[i]? = some d → Pv i acc → ∃ S, TgD g (wipe σ (own.map (·.2))) d S ∧ ∀ H' σ2, Same H H' → S σ2 H' → wipe σ2 (own.map (·.2)) = wipe σ (own.map (·.2)) ∧ ∃ Φ : Bool → Prop, DTs (blkF X scope) σ2 H' ifs Φ ∧
      (Φ false → Pv (i + 1) acc) ∧ (Φ true → ∃ Ψ, DP (blkF X scope) σ2 H' elt Ψ ∧ ∀ y, Ψ y → Pv (i + 1) (acc ++ [y])))
    (hs : ∀ i x, foldedSetIterable e (X i).env x = pure x := by intro _ _; rfl) :
    DP X σ H (.ListComp elt [⟨tg, e, ifs, 0⟩] scope pos) (fun d => ∃ acc, d = .list acc ∧ Pv ds.length acc) := fun H1 Q s q =>
  ⟨tLc (uI X tg e) g (uTs (blkF X scope) ifs) (uE (blkF X scope) elt) (own.map (·.2)), fun i => pe_lc (hA i).calm (hN i) (pi_u i) (ok i) (fun s H C cl fp => hg (i, s, H, C, cl, fp)) (fun s H C cl fp => pts_u (X := blkF X scope) (i, s, H, C, cl, fp)) (fun s H C cl fp => pe_u (X := blkF X scope) (i, s, H, C, cl, fp)) (hs i),
    lc_sem src Pv h0 step H1 Q s q⟩
theorem ui_hide {D : Addr} {vs : List V} {R : It → Hp → Prop} (h : H D = some (.lst vs)) (q : uI X tg e σ (upd H D (.ext (Lph D vs))) fun J H' => H' D = some (.ext (Lph D vs)) ∧ R J (upd H' D (.lst vs))) : uI X tg e σ H R := by
  refine ⟨fun σ H R => ∃ vs, H D = some (.lst vs) ∧ uI X tg e σ (upd H D (.ext (Lph D vs))) fun J H' => H' D = some (.ext (Lph D vs)) ∧ R J (upd H' D (.lst vs)), fun i => ⟨fun pins s σ H R J hh => ?_⟩, ⟨vs, h, q⟩⟩
  obtain ⟨vs, h1, h2⟩ := hh
  refine thn ((pi_u i).run pins s σ _ _ (inv_hide J h1) h2) fun v s1 q => thn q fun it s2 z => ?_
  obtain ⟨it', fp, tn, J', H', e1, I', T, t0, f, r1, r2⟩ := z
  refine ⟨it', fp, tn, J', _, e1, inv_show I' r1, T, t0, fun b hb => ?_, r2⟩
  obtain ⟨a1, a2⟩ := f b hb
  have ne : b ≠ D := fun z => by rw [z, r1] at a1; cases a1
  exact ⟨by rw [upd_ne ne]; exact a1, a2⟩
def del (H : Hp) (D : Addr) : Hp := fun b => if b = D then none else H b
theorem del_ne {H : Hp} {D b : Addr} (h : b ≠ D) : del H D b = H b := if_neg h
theorem del_eq {H : Hp} {D : Addr} : del H D D = none := if_pos rfl
theorem TabF.del {H : Hp} {D P : Addr} {o : HO} (h : TabF H P) (hD : H D = some o) (hn : nC o = true) : TabF (del H D) P := by
  obtain ⟨ps, h1, h2, h3⟩ := h
  have ne : ∀ b o', H b = some o' → nC o' = false → b ≠ D := fun b o' e1 e2 z => by
    subst z
    rw [hD] at e1
    cases e1
    rw [hn] at e2
    cases e2
  refine ⟨ps, by rw [del_ne (ne _ _ h1 rfl)]; exact h1, h2, fun pos cv hc => ?_⟩
  obtain ⟨c, e, oc, vs, t, a, b⟩ := h3 pos cv hc
  exact ⟨c, e, oc, vs, t, by rw [del_ne (ne _ _ a rfl)]; exact a, b⟩
theorem del_same {H H' : Hp} {D : Addr} {o : HO} (s : Same H H') (h : H D = none) (hD : H' D = some o) (hn : nC o = true := by rfl) : Same H (del H' D) :=
  ⟨fun b o q n => by rw [del_ne (ne_of_none q h)]; exact s.at_ _ _ q n, fun P t => (s.tab P t).del hD hn⟩
theorem del_under {H : Hp} {D : Addr} {u : HO} : Same (del H D) (upd H D u) := Same.of fun b o q => by
  by_cases e : b = D
  · subst e; rw [del_eq] at q; cases q
  · rw [del_ne e] at q; rw [upd_ne e]; exact q
theorem flat_take {α β : Type} {f : α → List β} {l : List α} {i : Nat} {x : α} (h : l[i]? = some x) : (l.take (i + 1)).flatMap f = (l.take i).flatMap f ++ f x := by
  rw [List.take_succ, h, List.flatMap_append]
  simp
theorem yes_of {σ : St} {H : Hp} {Q : Bool → Hp → Prop} (h : Q true H) : tYes σ H Q := h
/-- [elt for y in e for z in e1], all known -/
theorem de_lc2 {elt e1 : Expr} {scope : Scope} {y z : Str} {i j : Nat} {tp tq : Pos} {ds : List PyData} (hA : ∀ i, At (X i) P w K mg base k) (hN : ∀ i, (X i).N.Nodup) (ok : ∀ i', BlkOk (X i').N (X i').env.scope scope [(y, i), (z, j)]) (hij : i ≠ j)
    (hg : ∀ i', PG (blkF X scope i') (.Name y tp) (gName i)) (hg1 : ∀ i', PG (blkF X scope i') (.Name z tq) (gName j)) (src : DI X σ H (.Name y tp) e ds) (es : PyData → List PyData) (f : PyData → PyData → PyData) (hz : (ds.flatMap fun d => (es d).map (f d)).length ≤ sizeLine)
    (step : ∀ d, d ∈ ds → ∀ H' v, Same H H' → Rp H' v d → DI (blkF X scope) ((wipe σ [i, j]).set i (some v)) H' (.Name z tq) e1 (es d) ∧ ∀ d', d' ∈ es d → ∀ H'' v', Same H' H'' → Rp H'' v' d' → DE (blkF X scope) ((((wipe σ [i, j]).set i (some v)).set j none).set j (some v')) H'' elt (f d d'))
    (hs : ∀ i x, foldedSetIterable e (X i).env x = pure x := by intro _ _; rfl) (hs1 : ∀ env x, foldedSetIterable e1 env x = pure x := by intro _ _; rfl) :
    DE X σ H (.ListComp elt [⟨.Name y tp, e, [], 0⟩, ⟨.Name z tq, e1, [], 0⟩] scope pos) (.list (ds.flatMap fun d => (es d).map (f d))) := fun H1 Q s q => by
  refine ⟨tLc2 (uI X (.Name y tp) e) (gName i) tYes (uI (blkF X scope) (.Name z tq) e1) (gName j) tYes (uE (blkF X scope) elt) ([(y, i), (z, j)].map (·.2)) [j], fun i' => pe_lc2 (hA i').calm (hN i') (pi_u i') (ok i') (fun k hk => by simp at hk; subst hk; simp) (fun s H C cl fp => hg (i', s, H, C, cl, fp)) (fun _ _ _ _ _ => pts_nil) (fun s H C cl fp => pi_u (X := blkF X scope) (i', s, H, C, cl, fp)) (fun s H C cl fp => hg1 (i', s, H, C, cl, fp)) (fun _ _ _ _ _ => pts_nil) (fun s H C cl fp => pe_u (X := blkF X scope) (i', s, H, C, cl, fp)) (hs i') hs1, ?_⟩
  refine src H1 _ s fun J H2 s2 yl hlen D hD => ?_
  refine ⟨fun n m H' => m = ds.length - n ∧ n ≤ ds.length ∧ ∃ vs, H' D = some (.lst vs) ∧ RpA (upd H' D (.ext (Lph D vs))) vs ((ds.take n).flatMap fun d => (es d).map (f d)) ∧ Same H2 H', ⟨ds.length, by simp, Nat.zero_le _, [], upd_same, .nil, same_upd hD⟩, ?_⟩
  rintro n m H3 ⟨rfl, hn, vs, hD3, ra, s3⟩
  obtain ⟨y1, y2⟩ := yl H3 (same_e s3) n
  rcases Nat.lt_or_ge n ds.length with hlt | hge
  · refine .inr ⟨(y1 hlt).1, ?_⟩
    obtain ⟨d, hd⟩ : ∃ d, ds[n]? = some d := ⟨_, List.getElem?_eq_getElem hlt⟩
    refine ⟨fun H' => n + 1 ≤ ds.length ∧ ∃ vs, H' D = some (.lst vs) ∧ RpA (upd H' D (.ext (Lph D vs))) vs ((ds.take (n + 1)).flatMap fun d => (es d).map (f d)) ∧ Same H2 H', fun H' q => ⟨ds.length - (n + 1), by omega, rfl, q⟩, fun x H4 yx => ?_⟩
    obtain ⟨s4, d', hd', _, rx⟩ := (y1 hlt).2 x H4 yx
    obtain rfl : d = d' := Option.some.inj (hd.symm.trans hd')
    have hD4 : H4 D = some (.lst vs) := s4 _ _ hD3
    have s24 := same_hide (u := .ext (Lph D vs)) (s3.trans s4) hD hD4
    obtain ⟨k1, k2⟩ := step d (List.mem_of_getElem? hd) (del H4 D) x (s.trans (s2.trans (del_same (s3.trans s4) hD hD4))) ((rx D (.ext (Lph D vs)) (.inl hD) ⟨_, hD3⟩).monoX upd_same fun b o hb q n => by rw [upd_ne hb] at q; rw [del_ne hb]; exact q)
    refine ⟨by
      show ((((σ.set j none).set i none).set i (some x)).set j none).set i none = (σ.set j none).set i none
      rw [List.set_set, List.set_comm _ _ hij, List.set_set, List.set_set], yes_of (iteT ?_)⟩
    refine ui_hide hD4 (k1 _ _ del_under fun J1 H5 s5 yl1 hlen1 => ⟨s5 _ _ upd_same, ?_⟩)
    have hD5 : H5 D = some (.ext (Lph D vs)) := s5 _ _ upd_same
    have e5 : ((ds.take n).flatMap fun d => (es d).map (f d)).length + (es d).length ≤ (ds.flatMap fun d => (es d).map (f d)).length := by
      have q : ((ds.take (n + 1)).flatMap fun d => (es d).map (f d)).length ≤ (ds.flatMap fun d => (es d).map (f d)).length := by
        have := List.take_append_drop (n + 1) ds
        conv => rhs; rw [← this]
        rw [List.flatMap_append, List.length_append]
        omega
      rw [flat_take hd, List.length_append, List.length_map] at q
      exact q
    -- the inner walk: vs1 holds what has been made
    refine ⟨fun c m H' => m = (es d).length - c ∧ c ≤ (es d).length ∧ ∃ vs1, H' D = some (.lst vs1) ∧ RpA (upd H' D (.ext (Lph D vs1))) vs1 (((ds.take n).flatMap fun d => (es d).map (f d)) ++ ((es d).take c).map (f d)) ∧ SameE H5 H' ∧ Same H2 H' ∧ Same (del H4 D) H', ⟨(es d).length, by simp, Nat.zero_le _, vs, upd_same, ?_, sameE_hide (fun b o q _ => q) (.inr ⟨_, hD5⟩), same_hide (s24.trans s5) hD hD5, same_hide (del_under.trans s5) del_eq hD5⟩, ?_⟩
    · rw [List.take_zero, List.map_nil, List.append_nil, upd_upd]
      refine ra.monoX upd_same fun b o hb q' n => ?_
      rw [upd_ne hb] at q' ⊢
      exact s5.at_ _ _ (by rw [upd_ne hb]; exact s4.at_ _ _ q' n) n
    rintro c m H6 ⟨rfl, hc, vs1, hD6, ra1, s6, s26, s46⟩
    obtain ⟨z1, z2⟩ := yl1 H6 s6 c
    rcases Nat.lt_or_ge c (es d).length with clt | cge
    · refine .inr ⟨(z1 clt).1, ?_⟩
      obtain ⟨d1, hd1⟩ : ∃ d1, (es d)[c]? = some d1 := ⟨_, List.getElem?_eq_getElem clt⟩
      refine ⟨fun H' => c + 1 ≤ (es d).length ∧ ∃ vs1, H' D = some (.lst vs1) ∧ RpA (upd H' D (.ext (Lph D vs1))) vs1 (((ds.take n).flatMap fun d => (es d).map (f d)) ++ ((es d).take (c + 1)).map (f d)) ∧ SameE H5 H' ∧ Same H2 H' ∧ Same (del H4 D) H', fun H' q => ⟨(es d).length - (c + 1), by omega, rfl, q⟩, fun x1 H7 yx1 => ?_⟩
      obtain ⟨s7, d1', hd1', _, rx1⟩ := (z1 clt).2 x1 H7 yx1
      obtain rfl : d1 = d1' := Option.some.inj (hd1.symm.trans hd1')
      have hD7 : H7 D = some (.lst vs1) := s7 _ _ hD6
      refine ⟨by
        show ((((wipe σ [i, j]).set i (some x)).set j none).set j (some x1)).set j none = ((wipe σ [i, j]).set i (some x)).set j none
        rw [List.set_set, List.set_set], yes_of (iteT (ue_hide hD7 ?_))⟩
      have sH : Same (del H4 D) (upd H7 D (.ext (Lph D vs1))) := same_hide (s46.trans s7) del_eq hD7
      refine k2 d1 (List.mem_of_getElem? hd1) (upd H7 D (.ext (Lph D vs1))) x1 sH (rx1 D _ (.inr ⟨_, hD5⟩) ⟨_, hD6⟩) _ _ (Same.refl _) fun yv H8 yd s8 ry fy => ?_
      subst fy
      have hD8 : H8 D = some (.ext (Lph D vs1)) := s8 _ _ upd_same
      have hl1 : vs1.length < sizeLine := by
        rw [ra1.length, List.length_append, List.length_map, List.length_take]
        omega
      have mv : SameX D H8 (upd (upd (upd H8 D (.lst vs1)) D (.lst (vs1 ++ [yv]))) D (.ext (Lph D (vs1 ++ [yv])))) := fun b o hb q' _ => by rw [upd_ne hb, upd_ne hb, upd_ne hb]; exact q'
      have s78 : SameX D H7 (upd (upd H8 D (.lst vs1)) D (.lst (vs1 ++ [yv]))) := fun b o hb q' n => by rw [upd_ne hb, upd_ne hb]; exact s8.at_ _ _ (by rw [upd_ne hb]; exact q') n
      refine ⟨hD8, vs1, upd_same, hl1, clt, vs1 ++ [yv], upd_same, ?_, fun b o q' n => ?_, same_hide (same_hide ((same_hide (s26.trans s7) hD hD7).trans s8) hD hD8) hD upd_same, same_hide (same_hide (sH.trans s8) del_eq hD8) del_eq upd_same⟩
      · have e6 : ((es d).take (c + 1)).map (f d) = ((es d).take c).map (f d) ++ [f d d1] := by rw [List.take_succ, hd1, List.map_append] <;> rfl
        rw [e6, ← List.append_assoc]
        refine RpA.append ?_ (.cons (ry.monoX hD8 mv) .nil)
        refine ra1.monoX upd_same fun b o hb q' n => ?_
        rw [upd_ne hb] at q' ⊢
        exact s78 _ _ hb (s7.at_ _ _ q' n) n
      · have hb : b ≠ D := fun z => by subst z; rw [hD5] at q'; cases q'; cases n
        exact s78 _ _ hb (s7.at_ _ _ (s6 _ _ q' n) (nX_nT n)) (nX_nT n)
    · have ce : c = (es d).length := by omega
      subst ce
      refine .inl ⟨z2 rfl, hlt, vs1, hD6, ?_, s26⟩
      rw [flat_take hd]
      rw [List.take_length] at ra1
      exact ra1
  · have en : n = ds.length := by omega
    subst en
    rw [List.take_length] at ra
    exact .inl ⟨y2 rfl, q (.ref D) H3 _ (s2.trans s3) (.lst hD3 (ra.monoX upd_same fun b o hb q n => by rw [upd_ne hb] at q; exact q)) rfl⟩
end
end SW

set_option Elab.async false
set_option linter.all false
set_option maxRecDepth 100000
set_option maxHeartbeats 2000000
/-! Sw3: comprehensions in short, subscripts, statements, a def's promise from its body. -/
namespace SW
open PySem L2
variable [Nm]
section
variable {I : Type} {X : I → Cx} {σ : St} {H H' : Hp} {tg e a b c : Expr} {es rest : List Expr} {pos : Pos}
variable {P : Program} {w : World} {K : PySem.W.Frag} {mg : Str → Option Value} {base : Heap} {k : Nat} {x : Str} {p : Pos} {ps : List Str}
theorem filterMap_take {α β : Type} {f : α → Option β} {l : List α} {i : Nat} {x : α} (h : l[i]? = some x) : (l.take (i + 1)).filterMap f = (l.take i).filterMap f ++ (match f x with | some y => [y] | none => []) := by
  rw [List.take_succ, h, List.filterMap_append]
  show _ ++ ([x] : List α).filterMap f = _
  cases q : f x <;> simp [q]
/-- [elt for tg in e if ..], all known: F tells what an item gives, or that it is left out -/
theorem de_lcF {elt : Expr} {ifs : List Expr} {scope : Scope} {own : List (Str × Nat)} {g : TG} {ds : List PyData} (hA : ∀ i, At (X i) P w K mg base k) (hN : ∀ i, (X i).N.Nodup) (ok : ∀ i, BlkOk (X i).N (X i).env.scope scope own)
    (hg : ∀ i, PG (blkF X scope i) tg g) (src : DI X σ H tg e ds) (F : PyData → Option PyData)
    (step : ∀ d, d ∈ ds → ∃ S, TgD g (wipe σ (own.map (·.2))) d S ∧ ∀ H' σ2, Same H H' → S σ2 H' → wipe σ2 (own.map (·.2)) = wipe σ (own.map (·.2)) ∧ DTs (blkF X scope) σ2 H' ifs (fun t => t = (F d).isSome) ∧
      (∀ y, F d = some y → DE (blkF X scope) σ2 H' elt y))
    (hs : ∀ i x, foldedSetIterable e (X i).env x = pure x := by intro _ _; rfl) :
    DE X σ H (.ListComp elt [⟨tg, e, ifs, 0⟩] scope pos) (.list (ds.filterMap F)) := by
  refine (dp_lc hA hN ok hg src (fun i acc => acc = (ds.take i).filterMap F) (by simp) (fun i d acc hd pv => ?_) hs).mono fun d ⟨acc, e1, e2⟩ => by rw [e1, e2, List.take_length]
  obtain ⟨S, hS, q⟩ := step d (List.mem_of_getElem? hd)
  refine ⟨S, hS, fun H' σ2 s z => ?_⟩
  obtain ⟨h1, h2, h3⟩ := q H' σ2 s z
  refine ⟨h1, _, h2, fun f => ?_, fun f => ?_⟩
  · rw [filterMap_take hd, pv]
    cases q : F d with
    | none => simp
    | some y => rw [q] at f; cases f
  · cases q : F d with
    | none => rw [q] at f; cases f
    | some y =>
      refine ⟨_, h3 y q, fun y' e' => ?_⟩
      subst e'
      rw [filterMap_take hd, pv, q]
/-- one name, no test -/
theorem de_lcMap {elt : Expr} {scope : Scope} {y : Str} {i : Nat} {tp : Pos} {ds : List PyData} (hA : ∀ i, At (X i) P w K mg base k) (hN : ∀ i, (X i).N.Nodup) (src : DI X σ H (.Name y tp) e ds) (f : PyData → PyData)
    (step : ∀ d, d ∈ ds → ∀ H' v, Same H H' → Rp H' v d → DE (blkF X scope) ((wipe σ [i]).set i (some v)) H' elt (f d))
    (ok : ∀ i', BlkOk (X i').N (X i').env.scope scope [(y, i)] := by intro _; exact blkOk_by (by decide +kernel))
    (hg : ∀ i', PG (blkF X scope i') (.Name y tp) (gName i) := by intro i'; exact pg_name (by assumption) rfl (Or.inl rfl))
    (hs : ∀ i x, foldedSetIterable e (X i).env x = pure x := by intro _ _; rfl) (hw : ∀ v, wipe ((wipe σ [i]).set i (some v)) [i] = wipe σ [i] := by intro _; rfl) :
    DE X σ H (.ListComp elt [⟨.Name y tp, e, [], 0⟩] scope pos) (.list (ds.map f)) := by
  have h := de_lcF (pos := pos) (elt := elt) (ifs := []) hA hN ok hg src (fun d => some (f d)) (fun d hd => ⟨_, tg_name, fun H' σ2 s ⟨v, r, e2⟩ => ?_⟩) hs
  · have q : ds.filterMap (fun d => some (f d)) = ds.map f := by simp
    rwa [q] at h
  · subst e2
    exact ⟨hw v, dts_nil, fun y e1 => by cases e1; exact step d hd H' v s r⟩
/-- one name, one test -/
theorem de_lcIf {elt : Expr} {scope : Scope} {y : Str} {i : Nat} {tp : Pos} {ds : List PyData} (hA : ∀ i, At (X i) P w K mg base k) (hN : ∀ i, (X i).N.Nodup) (src : DI X σ H (.Name y tp) e ds) (t : PyData → Bool) (f : PyData → PyData)
    (step : ∀ d, d ∈ ds → ∀ H' v, Same H H' → Rp H' v d → DB (blkF X scope) ((wipe σ [i]).set i (some v)) H' c (t d) ∧ (t d = true → DE (blkF X scope) ((wipe σ [i]).set i (some v)) H' elt (f d)))
    (ok : ∀ i', BlkOk (X i').N (X i').env.scope scope [(y, i)] := by intro _; exact blkOk_by (by decide +kernel))
    (hg : ∀ i', PG (blkF X scope i') (.Name y tp) (gName i) := by intro i'; exact pg_name (by assumption) rfl (Or.inl rfl))
    (hs : ∀ i x, foldedSetIterable e (X i).env x = pure x := by intro _ _; rfl) (hw : ∀ v, wipe ((wipe σ [i]).set i (some v)) [i] = wipe σ [i] := by intro _; rfl) :
    DE X σ H (.ListComp elt [⟨.Name y tp, e, [c], 0⟩] scope pos) (.list ((ds.filter t).map f)) := by
  have h := de_lcF (pos := pos) (elt := elt) (ifs := [c]) hA hN ok hg src (fun d => if t d then some (f d) else none) (fun d hd => ⟨_, tg_name, fun H' σ2 s ⟨v, r, e2⟩ => ?_⟩) hs
  · have q : ∀ ds : List PyData, ds.filterMap (fun d => if t d then some (f d) else none) = (ds.filter t).map f := fun ds => by
      induction ds with
      | nil => rfl
      | cons d ds ih => rw [List.filterMap_cons, List.filter_cons, ih]; cases t d <;> simp
    rwa [q] at h
  · subst e2
    obtain ⟨h1, h2⟩ := step d hd H' v s r
    refine ⟨hw v, dts_one (h1.mono fun q e1 => ?_), fun y e1 => ?_⟩
    · rw [e1]; cases t d <;> rfl
    · by_cases q : t d = true
      · rw [if_pos q] at e1; cases e1; exact h2 q
      · rw [if_neg q] at e1; cases e1

/-! #### subscripts -/
theorem de_ixT {ds : List PyData} {i : Int} {d : PyData} (hA : ∀ i, At (X i) P w K mg base k) (ha : DE X σ H a (.tuple ds)) (hb : DE X σ H b (.int i)) (h : atI ds i = some d) (hp : PlainIx b := by exact fun _ _ => rfl) : DE X σ H (.Subscript a b pos) d := fun H1 Q s q =>
  ⟨_, fun j => pe_ix ((hA j).K ▸ ix_tup) (pe_u j) (pe_u j) hp, ha H1 _ s fun v H2 x s2 r2 e2 => hb H2 _ (s.trans s2) fun w' H3 y s3 r3 e3 => by
    subst e2 e3
    cases r3
    cases r2 with
    | tup hh t =>
      unfold atI at h
      cases e1 : ixN ds.length i with
      | none => rw [e1] at h; cases h
      | some j =>
        rw [e1] at h
        obtain ⟨u, h1, h2⟩ := t.get' (show ds[j]? = some d from h)
        refine ⟨_, _, i, u, rfl, rfl, SqT.of (s3 _ _ hh), ?_, q u H3 d (s2.trans s3) (h2.mono s3) rfl⟩
        unfold atI
        rw [t.length, e1]
        exact h1⟩
theorem de_ixL {ds : List PyData} {i : Int} {d : PyData} (hA : ∀ i, At (X i) P w K mg base k) (ha : DE X σ H a (.list ds)) (hb : DE X σ H b (.int i)) (h : atI ds i = some d) (hp : PlainIx b := by exact fun _ _ => rfl) : DE X σ H (.Subscript a b pos) d := fun H1 Q s q =>
  ⟨_, fun j => pe_ix ((hA j).K ▸ ix_list) (pe_u j) (pe_u j) hp, ha H1 _ s fun v H2 x s2 r2 e2 => hb H2 _ (s.trans s2) fun w' H3 y s3 r3 e3 => by
    subst e2 e3
    cases r3
    cases r2 with
    | lst hh t =>
      unfold atI at h
      cases e1 : ixN ds.length i with
      | none => rw [e1] at h; cases h
      | some j =>
        rw [e1] at h
        obtain ⟨u, h1, h2⟩ := t.get' (show ds[j]? = some d from h)
        refine ⟨_, _, i, u, rfl, rfl, SqL.of (s3 _ _ hh), ?_, q u H3 d (s2.trans s3) (h2.mono s3) rfl⟩
        unfold atI
        rw [t.length, e1]
        exact h1⟩
theorem RpA.drop {H : Hp} : ∀ {vs : List V} {ds : List PyData} (n : Nat), RpA H vs ds → RpA H (vs.drop n) (ds.drop n)
  | _, _, 0, h => h
  | _, _, n + 1, .nil => .nil
  | _, _, n + 1, .cons _ r => r.drop n
/-- t[j:], j a number that is not negative -/
theorem de_tailT {ds : List PyData} {j : Nat} {p2 : Pos} (hA : ∀ i, At (X i) P w K mg base k) (ha : DE X σ H a (.tuple ds)) (hb : DE X σ H b (.int j)) : DE X σ H (.Subscript a (.Slice (some b) none none p2) pos) (.tuple (ds.drop j)) := fun H1 Q s q =>
  ⟨_, fun i => pe_slice ((hA i).K ▸ sl_tupA) (pe_u i) (po_some (pe_u i)) po_none, ha H1 _ s fun v H2 x s2 r2 e2 => hb H2 _ (s.trans s2) fun w' H3 y s3 r3 e3 => by
    subst e2 e3
    cases r3
    cases r2 with
    | tup hh t =>
      have hh3 := s3 _ _ hh
      have t3 := t.mono s3
      refine ⟨j, rfl, _, _, rfl, SqT.of hh3, fun z => ?_, fun z p hp => ?_⟩
      · obtain ⟨z, _⟩ := z
        rw [HT.sIx_nat] at z
        have e1 : ds.drop j = ds := by
          rcases Nat.eq_zero_or_pos j with h0 | h0
          · rw [h0]; rfl
          · have : ds.length = 0 := by rw [← t.length]; omega
            rw [List.eq_nil_of_length_eq_zero this, List.drop_nil]
        exact q _ H3 _ (s2.trans s3) (.tup hh3 t3) (by rw [e1])
      · refine q _ _ _ ((s2.trans s3).trans (same_upd hp)) (.tup upd_same ?_) rfl
        have e1 : ∀ xs : List V, cutV xs (some (j : Int)) none = xs.drop j := fun xs => by
          unfold cutV
          rw [HT.sIx_nat, HT.sIx_none]
          rcases Nat.le_total j xs.length with hl | hl
          · rw [Nat.min_eq_left hl, ← List.length_drop, List.take_length]
          · rw [Nat.min_eq_right hl, List.drop_length, List.drop_eq_nil_of_le hl, List.take_nil]
        rw [e1]
        exact (t3.mono (same_upd hp)).drop j⟩

/-! #### statements -/
variable {D : Ends} {st : Stmt} {sts : List Stmt}
theorem wb_nil (h : D.nx σ H) : uB X [] D σ H := ⟨_, fun _ => pss_nil, h⟩
theorem wb_cons {t : TS} (p : ∀ i, PS (X i) st t) (h : t { D with nx := fun σ H => uB X sts D σ H } σ H) : uB X (st :: sts) D σ H := ⟨_, fun i => pss_cons (p i) (pb_u i), h⟩
/-- x = e -/
theorem wb_set {i : Nat} {y : Str} {Φ : PyData → Prop} {pos' : Pos} (h : DP X σ H e Φ) (q : ∀ v H' d, Same H H' → Rp H' v d → Φ d → uB X sts D (σ.set i (some v)) H') (hN : ∀ i, (X i).N.Nodup) (hi : ∀ i', (X i').N[i]? = some y := by intro _; rfl) (hx : ∀ i', Loc (X i').env.scope y := by intro _; exact Or.inl rfl)
    (hs : ∀ i', swapsWith e (some (.Name y pos')) pos.line (X i').env = pure false := by intro _; rfl) (hf : ∀ i', (X i').fn y = true ∨ (X i').env.scope.names.lookup y = some .local := by intro _; first | exact Or.inl rfl | exact Or.inr rfl) : uB X (.Assign [.Name y pos'] e pos :: sts) D σ H :=
  wb_cons (fun i' => ps_set (hN i') (hi i') (hx i') (pe_u i') (hs i') (hf i')) (h.use q)
/-- a, b = .. as a target -/
theorem pg_two {i j : Nat} {y z : Str} {p1 p2 pt : Pos} {kt} (hA : ∀ i, At (X i) P w K mg base k) (hN : ∀ i, (X i).N.Nodup)
    (hi : ∀ i', (X i').N[i]? = some y := by intro _; rfl) (hj : ∀ i', (X i').N[j]? = some z := by intro _; rfl) (hx : ∀ i', Loc (X i').env.scope y := by intro _; first | exact Or.inl rfl | exact Or.inr rfl) (hy : ∀ i', Loc (X i').env.scope z := by intro _; first | exact Or.inl rfl | exact Or.inr rfl)
    (hf : ∀ i', (X i').fn y = true ∨ (X i').env.scope.names.lookup y = some .local := by intro _; first | exact Or.inl rfl | exact Or.inr rfl) (hf' : ∀ i', (X i').fn z = true ∨ (X i').env.scope.names.lookup z = some .local := by intro _; first | exact Or.inl rfl | exact Or.inr rfl) :
    ∀ i', PG (X i') (.Tuple [.Name y p1, .Name z p2] kt pt) (gTup K 2 (gCons (gName i) (gCons (gName j) gNil))) := fun i' =>
  (hA i').K ▸ pg_tup (hA i').calm (pgs_cons (pg_name (hN i') (hi i') (hx i') (hf i')) (pgs_cons (pg_name (hN i') (hj i') (hy i') (hf' i')) pgs_nil rfl) rfl) rfl rfl
/-- a, b = e -/
theorem wb_two {i j : Nat} {y z : Str} {Φ : PyData → PyData → Prop} {p1 p2 pt : Pos} {kt} (hA : ∀ i, At (X i) P w K mg base k) (h : DP X σ H e (fun d => ∃ d1 d2, d = .tuple [d1, d2] ∧ Φ d1 d2)) (hN : ∀ i, (X i).N.Nodup) (q : ∀ v v' H' d d', Same H H' → Rp H' v d → Rp H' v' d' → Φ d d' → uB X sts D ((σ.set i (some v)).set j (some v')) H')
    (hi : ∀ i', (X i').N[i]? = some y := by intro _; rfl) (hj : ∀ i', (X i').N[j]? = some z := by intro _; rfl) (hx : ∀ i', Loc (X i').env.scope y := by intro _; first | exact Or.inl rfl | exact Or.inr rfl) (hy : ∀ i', Loc (X i').env.scope z := by intro _; first | exact Or.inl rfl | exact Or.inr rfl)
    (hf : ∀ i', (X i').fn y = true ∨ (X i').env.scope.names.lookup y = some .local := by intro _; first | exact Or.inl rfl | exact Or.inr rfl) (hf' : ∀ i', (X i').fn z = true ∨ (X i').env.scope.names.lookup z = some .local := by intro _; first | exact Or.inl rfl | exact Or.inr rfl)
    (hs : ∀ i', swapsWithSole [.Tuple [.Name y p1, .Name z p2] kt pt] e pos.line (X i').env = pure false := by intro _; rfl) (hw : ∀ i', swappedStores [.Tuple [.Name y p1, .Name z p2] kt pt] e (X i').env = pure none := by intro _; rfl) : uB X (.Assign [.Tuple [.Name y p1, .Name z p2] kt pt] e pos :: sts) D σ H :=
  wb_cons (fun i' => ps_asg (pe_u i') (pg_two hA hN hi hj hx hy hf hf' i') (hs i') (hw i')) (h.use fun v H' d s r f => by
    obtain ⟨d1, d2, rfl, f⟩ := f
    exact tg_two v H' H' _ (fun _ _ q => q) r fun σ2 ⟨v1, v2, r1, r2, e2⟩ => by subst e2; exact q v1 v2 H' d1 d2 s r1 r2 f)
theorem wb_ret {Φ : PyData → Prop} (h : DP X σ H e Φ) (q : ∀ v H' d, Same H H' → Rp H' v d → Φ d → D.rt v H') : uB X (.Return (some e) pos :: sts) D σ H := wb_cons (fun i => ps_ret (pe_u i)) (h.use q)
theorem wb_if {Φ : Bool → Prop} {as bs : List Stmt} (h : DT X σ H c Φ) (q1 : ∀ H', Same H H' → Φ true → uB X as { D with nx := fun σ H => uB X sts D σ H } σ H') (q2 : ∀ H', Same H H' → Φ false → uB X bs { D with nx := fun σ H => uB X sts D σ H } σ H') : uB X (.If c as bs pos :: sts) D σ H :=
  wb_cons (fun i => ps_if (pt_u i) (pb_u i) (pb_u i)) (h.use fun b H' s f => by
    cases b with
    | true => exact iteT (q1 H' s f)
    | false => exact iteF (q2 H' s f))
/-- if c: .., c known to be false, nothing behind an else -/
theorem wb_no {as : List Stmt} (h : DB X σ H c false) (q : ∀ H', Same H H' → uB X sts D σ H') : uB X (.If c as [] pos :: sts) D σ H := wb_if h (fun _ _ f => by cases f) fun H' s _ => wb_nil (q H' s)
theorem wb_yes {as bs : List Stmt} (h : DB X σ H c true) (q : ∀ H', Same H H' → uB X as { D with nx := fun σ H => uB X sts D σ H } σ H') : uB X (.If c as bs pos :: sts) D σ H := wb_if h (fun H' s _ => q H' s) fun _ _ f => by cases f
theorem wb_expr {Φ : PyData → Prop} (h : DP X σ H e Φ) (q : ∀ H', Same H H' → uB X sts D σ H') (hs : ∀ i, swapsWith e none pos.line (X i).env = pure false := by intro _; rfl) : uB X (.Expr e pos :: sts) D σ H := wb_cons (fun i => ps_expr (pe_u i) (hs i)) (h.use fun _ H' _ s _ _ => q H' s)
theorem wb_for {body : List Stmt} {g : TG} {ds : List PyData} (hA : ∀ i, At (X i) P w K mg base k) (src : DI X σ H tg e ds) (hg : ∀ i, PG (X i) tg g) (Pv : Nat → St → Hp → Prop) (h0 : ∀ H', Same H H' → Pv 0 σ H')
    (step : ∀ i d σ' H', ds[i]? = some d → Pv i σ' H' → Same H H' → ∀ H2, Same H' H2 → ∃ S, TgD g σ' d S ∧ ∀ σ2 (N : St → Hp → Prop), S σ2 H2 → (∀ σ3 H3, Same H2 H3 → Pv (i + 1) σ3 H3 → N σ3 H3) → uB X body { D with nx := N, ct := N, bk := fun σ H => uB X sts D σ H } σ2 H2)
    (fin : ∀ σ' H', Pv ds.length σ' H' → Same H H' → uB X sts D σ' H')
    (hp : ∀ i, PassesOwn (model (X i).prog (X i).w) (X i).A (X i).env (X i).xe) (hf : ∀ i x, foldedSetIterable e (X i).env x = pure x := by intro _ _; rfl) : uB X (.For tg e body [] pos :: sts) D σ H :=
  wb_cons (fun i => ps_for (hp i) (hA i).calm (pi_u i) (hg i) (pb_u i) (hf i)) (src H _ (Same.refl H) fun J H2 s y _ => by
    refine ⟨fun i m σ' H' => m = ds.length - i ∧ i ≤ ds.length ∧ Pv i σ' H' ∧ Same H2 H', ⟨_, rfl, Nat.zero_le _, h0 H2 s, Same.refl _⟩, ?_⟩
    rintro i m σ' H' ⟨rfl, hi, pv, s2⟩
    obtain ⟨y1, y2⟩ := y H' (same_e s2) i
    rcases Nat.lt_or_ge i ds.length with hlt | hge
    · refine .inr ⟨(y1 hlt).1, fun σ' H' => Pv (i + 1) σ' H' ∧ Same H2 H', fun σ' H' n => ⟨_, by omega, rfl, hlt, n⟩, fun x H4 yx => ?_⟩
      obtain ⟨s4, d, hd, rx, _⟩ := (y1 hlt).2 x H4 yx
      obtain ⟨S, hS, rest⟩ := step i d σ' H' hd pv (s.trans s2) H4 s4
      exact hS x H4 H4 _ (fun _ _ q => q) rx fun σ2 hσ => rest σ2 _ hσ fun σ3 H3 s3 p3 => ⟨p3, s2.trans (s4.trans s3)⟩
    · have e1 : i = ds.length := by omega
      subst e1
      exact .inl ⟨y2 rfl, fin σ' H' pv (s.trans s2)⟩)

/-! #### a def -/
/-- a def of the text, standing behind the top under its name -/
def Df (K : PySem.W.Frag) (mg : Str → Option Value) (x : Str) (st : Stmt) (ps : List Str) : Prop := ∃ f fd, Fun K x x st f fd ∧ mg x = some (.ref f) ∧ Binds K fd ps []
/-- the context of a def's body -/
abbrev bdF (P : Program) (w : World) (K : PySem.W.Frag) (mg : Str → Option Value) (base : Heap) (N : List Str) (x : Str) (sc : Scope) (f : Addr) (cdv : Value) (A : Around) (outer : List Env) (s : Shared) (H : Hp) : Unit → Cx := fun _ => (cxOf CX0 P w K mg base N x sc f cdv A outer s H E0).nox
theorem Df.fn {x : Str} {st : Stmt} {ps N : List Str} {sp : Sp} (D : Df K mg x st ps) (S : FnScope N ps (defScope st)) (len : ∀ vs H Q E, sp vs H Q E → vs.length = ps.length) (hE : ∀ vs H Q E, sp vs H Q E → sp vs H Q E0)
    (h : ∀ (f : Addr) (cdv : Value) (A : Around) (outer : List Env) (s : Shared) (H0 H : Hp) (vs : List V) (Q : VK), (∀ i, At (bdF P w K mg base N x (defScope st) f cdv A outer s H0 i) P w K mg base k) → sp vs H Q E0 →
      uB (bdF P w K mg base N x (defScope st) f cdv A outer s H0) (defBody st) { nx := fun _ H' => Q .non H', rt := Q } (start N vs) H) : Fn P w K mg base (k + 1) x ps sp := by
  obtain ⟨f, fd, F, hm, hb⟩ := D
  refine ⟨f, fd, ?_, hm, F.kp, hb⟩
  refine F.ok S len fun cdv A outer s H vs Q E hr hs => ?_
  obtain ⟨t, p, q⟩ := h f cdv A outer s H H vs Q (fun _ => ⟨rfl, rfl, rfl, rfl, rfl, rfl, hr⟩) (hE _ _ _ _ hs)
  exact ⟨t, p (), q⟩
end
end SW

set_option Elab.async false
set_option linter.all false
set_option maxRecDepth 100000
set_option maxHeartbeats 2000000
/-! Sw4: the same without addresses: slots hold data (or a value as it is). -/
namespace SW
open PySem L2
variable [Nm]
/-- what a slot holds: data, or just this value -/
inductive SD where
  | dat (d : PyData)
  | raw (v : V)
abbrev Env1 := List (Option SD)
def RpO (H : Hp) : Option (Option V) → Option (Option SD) → Prop
  | u, some (some (.dat d)) => ∃ v, u = some (some v) ∧ Rp H v d
  | u, some (some (.raw v)) => u = some (some v)
  | _, _ => True
structure RpS (H : Hp) (σ : St) (ρ : Env1) : Prop where
  len : σ.length = ρ.length
  at_ : ∀ i : Nat, RpO H (σ[i]? : Option (Option V)) (ρ[i]? : Option (Option SD))
theorem RpO.mono {H H' : Hp} (s : Same H H') {u : Option (Option V)} : ∀ {r : Option (Option SD)}, RpO H u r → RpO H' u r
  | some (some (.dat d)), ⟨v, e, r⟩ => ⟨v, e, r.mono s⟩
  | some (some (.raw v)), h => h
  | some none, _ => trivial
  | none, _ => trivial
theorem RpS.mono {H H' : Hp} {σ : St} {ρ : Env1} (s : Same H H') (r : RpS H σ ρ) : RpS H' σ ρ := ⟨r.len, fun i => (r.at_ i).mono s⟩
theorem RpS.set {H : Hp} {σ : St} {ρ : Env1} (r : RpS H σ ρ) {i : Nat} {v : V} {d : PyData} (h : Rp H v d) : RpS H (σ.set i (some v)) (ρ.set i (some (.dat d))) := by
  refine ⟨by rw [List.length_set, List.length_set, r.len], fun j => ?_⟩
  by_cases e : i = j
  · subst e
    by_cases hl : i < σ.length
    · rw [List.getElem?_set_self hl, List.getElem?_set_self (by rw [← r.len]; exact hl)]
      exact ⟨v, rfl, h⟩
    · rw [List.getElem?_eq_none (l := ρ.set i _) (by rw [List.length_set, ← r.len]; omega)]
      trivial
  · rw [List.getElem?_set_ne e, List.getElem?_set_ne e]
    exact r.at_ j
theorem RpS.setRaw {H : Hp} {σ : St} {ρ : Env1} (r : RpS H σ ρ) {i : Nat} {v : V} : RpS H (σ.set i (some v)) (ρ.set i (some (.raw v))) := by
  refine ⟨by rw [List.length_set, List.length_set, r.len], fun j => ?_⟩
  by_cases e : i = j
  · subst e
    by_cases hl : i < σ.length
    · rw [List.getElem?_set_self hl, List.getElem?_set_self (by rw [← r.len]; exact hl)]
      rfl
    · rw [List.getElem?_eq_none (l := ρ.set i _) (by rw [List.length_set, ← r.len]; omega)]
      trivial
  · rw [List.getElem?_set_ne e, List.getElem?_set_ne e]
    exact r.at_ j
theorem RpS.unset {H : Hp} {σ : St} {ρ : Env1} (r : RpS H σ ρ) {i : Nat} : RpS H (σ.set i none) (ρ.set i none) := by
  refine ⟨by rw [List.length_set, List.length_set, r.len], fun j => ?_⟩
  by_cases e : i = j
  · subst e
    by_cases hl : i < σ.length
    · rw [List.getElem?_set_self (l := ρ) (by rw [← r.len]; exact hl)]
      trivial
    · rw [List.getElem?_eq_none (l := ρ.set i _) (by rw [List.length_set, ← r.len]; omega)]
      trivial
  · rw [List.getElem?_set_ne e, List.getElem?_set_ne e]
    exact r.at_ j
def wipeR (ρ : Env1) : List Nat → Env1
  | [] => ρ
  | v :: vs => (wipeR ρ vs).set v none
theorem RpS.wipe {H : Hp} {σ : St} {ρ : Env1} (r : RpS H σ ρ) : ∀ vs : List Nat, RpS H (L2.wipe σ vs) (wipeR ρ vs)
  | [] => r
  | v :: vs => (r.wipe vs).unset
theorem RpS.get {H : Hp} {σ : St} {ρ : Env1} (r : RpS H σ ρ) {i : Nat} {d : PyData} (h : ρ[i]? = some (some (.dat d))) : ∃ v, σ[i]? = some (some v) ∧ Rp H v d := by
  have q := r.at_ i
  rw [h] at q
  exact q
theorem RpS.getRaw {H : Hp} {σ : St} {ρ : Env1} (r : RpS H σ ρ) {i : Nat} {v : V} (h : ρ[i]? = some (some (.raw v))) : σ[i]? = some (some v) := by
  have q := r.at_ i
  rw [h] at q
  exact q
/-- a fewer-knowing state -/
theorem RpS.weak {H : Hp} {σ : St} {ρ ρ' : Env1} (r : RpS H σ ρ) (hl : ρ.length = ρ'.length) (h : ∀ i : Nat, ρ'[i]? = ρ[i]? ∨ ρ'[i]? = some none) : RpS H σ ρ' := ⟨r.len.trans hl, fun i => by
  rcases h i with e | e
  · rw [e]; exact r.at_ i
  · rw [e]; trivial⟩
theorem RpA.start {H : Hp} : ∀ {vs : List V} {ds : List PyData} (n : Nat), RpA H vs ds → RpS H (vs.map some ++ List.replicate n none) ((ds.map fun d => some (SD.dat d)) ++ List.replicate n none)
  | _, _, n, .nil => ⟨by simp, fun i => by
    show RpO H _ (List.replicate n none)[i]?
    rw [List.getElem?_replicate]
    split <;> trivial⟩
  | _, _, n, .cons h r => by
    have ih := r.start n
    refine ⟨by simp [r.length], fun i => ?_⟩
    cases i with
    | zero => exact ⟨_, rfl, h⟩
    | succ i => simpa using ih.at_ i

/-- EP: what an expression is worth where slots hold ρ, H0 having been laid; EB: a test; EA: an argument list; EI: what is walked; WS: statements -/
structure EP {I : Type} (X : I → Cx) (H0 : Hp) (ρ : Env1) (e : Expr) (Φ : PyData → Prop) : Prop where
  run : ∀ σ H, Same H0 H → RpS H σ ρ → DP X σ H e Φ
instance {I : Type} {X : I → Cx} {H0 : Hp} {ρ : Env1} {e : Expr} {Φ : PyData → Prop} : CoeFun (EP X H0 ρ e Φ) (fun _ => ∀ σ H, Same H0 H → RpS H σ ρ → DP X σ H e Φ) := ⟨EP.run⟩
abbrev EV {I : Type} (X : I → Cx) (H0 : Hp) (ρ : Env1) (e : Expr) (d : PyData) : Prop := EP X H0 ρ e (fun x => x = d)
structure ET {I : Type} (X : I → Cx) (H0 : Hp) (ρ : Env1) (e : Expr) (Φ : Bool → Prop) : Prop where
  run : ∀ σ H, Same H0 H → RpS H σ ρ → DT X σ H e Φ
instance {I : Type} {X : I → Cx} {H0 : Hp} {ρ : Env1} {e : Expr} {Φ : Bool → Prop} : CoeFun (ET X H0 ρ e Φ) (fun _ => ∀ σ H, Same H0 H → RpS H σ ρ → DT X σ H e Φ) := ⟨ET.run⟩
abbrev EB {I : Type} (X : I → Cx) (H0 : Hp) (ρ : Env1) (e : Expr) (b : Bool) : Prop := ET X H0 ρ e (fun x => x = b)
structure EW {I : Type} (X : I → Cx) (H0 : Hp) (ρ : Env1) (e : Expr) (Φ : Bool → Prop) : Prop where
  run : ∀ σ H, Same H0 H → RpS H σ ρ → DW X σ H e Φ
instance {I : Type} {X : I → Cx} {H0 : Hp} {ρ : Env1} {e : Expr} {Φ : Bool → Prop} : CoeFun (EW X H0 ρ e Φ) (fun _ => ∀ σ H, Same H0 H → RpS H σ ρ → DW X σ H e Φ) := ⟨EW.run⟩
structure EA {I : Type} (X : I → Cx) (H0 : Hp) (ρ : Env1) (es : List Expr) (Φ : List PyData → Prop) : Prop where
  run : ∀ σ H, Same H0 H → RpS H σ ρ → DA X σ H es Φ
instance {I : Type} {X : I → Cx} {H0 : Hp} {ρ : Env1} {es : List Expr} {Φ : List PyData → Prop} : CoeFun (EA X H0 ρ es Φ) (fun _ => ∀ σ H, Same H0 H → RpS H σ ρ → DA X σ H es Φ) := ⟨EA.run⟩
abbrev EL {I : Type} (X : I → Cx) (H0 : Hp) (ρ : Env1) (es : List Expr) (ds : List PyData) : Prop := EA X H0 ρ es (fun x => x = ds)
structure EI {I : Type} (X : I → Cx) (H0 : Hp) (ρ : Env1) (tg e : Expr) (ds : List PyData) : Prop where
  run : ∀ σ H, Same H0 H → RpS H σ ρ → DI X σ H tg e ds
instance {I : Type} {X : I → Cx} {H0 : Hp} {ρ : Env1} {tg e : Expr} {ds : List PyData} : CoeFun (EI X H0 ρ tg e ds) (fun _ => ∀ σ H, Same H0 H → RpS H σ ρ → DI X σ H tg e ds) := ⟨EI.run⟩
structure WS {I : Type} (X : I → Cx) (H0 : Hp) (ρ : Env1) (sts : List Stmt) (D : Ends) : Prop where
  run : ∀ σ H, Same H0 H → RpS H σ ρ → uB X sts D σ H
instance {I : Type} {X : I → Cx} {H0 : Hp} {ρ : Env1} {sts : List Stmt} {D : Ends} : CoeFun (WS X H0 ρ sts D) (fun _ => ∀ σ H, Same H0 H → RpS H σ ρ → uB X sts D σ H) := ⟨WS.run⟩

section
variable {I : Type} {X : I → Cx} {H0 : Hp} {ρ : Env1} {tg e a b c : Expr} {es rest : List Expr} {pos : Pos}
variable {P : Program} {w : World} {K : PySem.W.Frag} {mg : Str → Option Value} {base : Heap} {k : Nat} {x : Str} {p : Pos} {ps : List Str}
theorem EP.mono {Φ Ψ : PyData → Prop} (h : EP X H0 ρ e Φ) (f : ∀ d, Φ d → Ψ d) : EP X H0 ρ e Ψ := .mk fun σ H s r => (h σ H s r).mono f
theorem ET.mono {Φ Ψ : Bool → Prop} (h : ET X H0 ρ e Φ) (f : ∀ d, Φ d → Ψ d) : ET X H0 ρ e Ψ := .mk fun σ H s r => (h σ H s r).mono f
theorem EV.to {d d' : PyData} (h : EV X H0 ρ e d) (q : d = d') : EV X H0 ρ e d' := q ▸ h
theorem EB.to {d d' : Bool} (h : EB X H0 ρ e d) (q : d = d') : EB X H0 ρ e d' := q ▸ h
theorem ev_var {i : Nat} {d : PyData} (p : ∀ i', PE (X i') e (tVar i)) (h : ρ[i]? = some (some (.dat d))) : EV X H0 ρ e d := .mk fun σ H s r => let ⟨_, h1, h2⟩ := r.get h; de_var p h1 h2
theorem ev_val {v : V} {d : PyData} (p : ∀ i, PE (X i) e (tC v)) (r : ∀ H, Rp H v d) : EV X H0 ρ e d := .mk fun σ H s _ => de_val p (r H)
theorem ev_int {i : Int} {j} : EV X H0 ρ (.Constant (.int i) j pos) (.int i) := .mk fun _ _ _ _ => de_int
theorem ev_bl {i : Bool} {j} : EV X H0 ρ (.Constant (.bool i) j pos) (.bool i) := .mk fun _ _ _ _ => de_bl
theorem ev_str {i : Str} {j} : EV X H0 ρ (.Constant (.str i) j pos) (.str i) := .mk fun _ _ _ _ => de_str
theorem ev_non {j} : EV X H0 ρ (.Constant .none j pos) .none := .mk fun _ _ _ _ => de_non
theorem ea_nil : EL X H0 ρ [] [] := .mk fun _ _ _ _ => da_nil
theorem el_cons {d : PyData} {ds : List PyData} (h : EV X H0 ρ e d) (t : EL X H0 ρ es ds) (hs : ∀ i, starEach (e :: es) (X i).env = (false, eval e (X i).env) :: starEach es (X i).env := by intro _; rfl) : EL X H0 ρ (e :: es) (d :: ds) := .mk fun σ H s r => dl_cons (h σ H s r) (t σ H s r) hs
theorem ea_cons {Φ : PyData → Prop} {Ψ : List PyData → Prop} (h : EP X H0 ρ e Φ) (t : EA X H0 ρ es Ψ) (hs : ∀ i, starEach (e :: es) (X i).env = (false, eval e (X i).env) :: starEach es (X i).env := by intro _; rfl) :
    EA X H0 ρ (e :: es) (fun ds => ∃ d r, ds = d :: r ∧ Φ d ∧ Ψ r) := .mk fun σ H s r => da_cons (h σ H s r) (t σ H s r) hs
theorem el1 {e1 : Expr} {d1 : PyData} (h1 : EV X H0 ρ e1 d1) (hs1 : ∀ i, starEach [e1] (X i).env = (false, eval e1 (X i).env) :: starEach [] (X i).env := by intro _; rfl) : EL X H0 ρ [e1] [d1] := el_cons h1 ea_nil hs1
theorem el2 {e1 e2 : Expr} {d1 d2 : PyData} (h1 : EV X H0 ρ e1 d1) (h2 : EV X H0 ρ e2 d2) (hs1 : ∀ i, starEach [e1, e2] (X i).env = (false, eval e1 (X i).env) :: starEach [e2] (X i).env := by intro _; rfl) (hs2 : ∀ i, starEach [e2] (X i).env = (false, eval e2 (X i).env) :: starEach [] (X i).env := by intro _; rfl) : EL X H0 ρ [e1, e2] [d1, d2] := el_cons h1 (el1 h2 hs2) hs1
theorem el3 {e1 e2 e3 : Expr} {d1 d2 d3 : PyData} (h1 : EV X H0 ρ e1 d1) (h2 : EV X H0 ρ e2 d2) (h3 : EV X H0 ρ e3 d3) (hs1 : ∀ i, starEach [e1, e2, e3] (X i).env = (false, eval e1 (X i).env) :: starEach [e2, e3] (X i).env := by intro _; rfl) (hs2 : ∀ i, starEach [e2, e3] (X i).env = (false, eval e2 (X i).env) :: starEach [e3] (X i).env := by intro _; rfl) (hs3 : ∀ i, starEach [e3] (X i).env = (false, eval e3 (X i).env) :: starEach [] (X i).env := by intro _; rfl) : EL X H0 ρ [e1, e2, e3] [d1, d2, d3] := el_cons h1 (el2 h2 h3 hs2 hs3) hs1
theorem ev_tup {x1} {ds : List PyData} (h : EL X H0 ρ es ds) (hz : ds.length ≤ sizeLine := by exact Nat.le_of_lt (small1000 (by simp only [List.length_cons, List.length_nil]; decide))) : EV X H0 ρ (.Tuple es x1 pos) (.tuple ds) := .mk fun σ H s r => de_tup (h σ H s r) hz
theorem ev_lst {ds : List PyData} (h : EL X H0 ρ es ds) (hz : ds.length ≤ sizeLine := by exact Nat.le_of_lt (small1000 (by simp only [List.length_cons, List.length_nil]; decide))) : EV X H0 ρ (.List es pos) (.list ds) := .mk fun σ H s r => de_lst (h σ H s r) hz
theorem ev_add {i j : Int} (ha : EV X H0 ρ a (.int i)) (hb : EV X H0 ρ b (.int j)) : EV X H0 ρ (.BinOp a .Add b pos) (.int (i + j)) := .mk fun σ H s r => de_add (ha σ H s r) (hb σ H s r)
theorem ev_sub {i j : Int} (ha : EV X H0 ρ a (.int i)) (hb : EV X H0 ρ b (.int j)) : EV X H0 ρ (.BinOp a .Sub b pos) (.int (i - j)) := .mk fun σ H s r => de_sub (ha σ H s r) (hb σ H s r)
theorem ev_mul {i j : Int} (ha : EV X H0 ρ a (.int i)) (hb : EV X H0 ρ b (.int j)) (h : CMul i j) : EV X H0 ρ (.BinOp a .Mult b pos) (.int (i * j)) := .mk fun σ H s r => de_mul (ha σ H s r) (hb σ H s r) h
theorem ev_mod {i j : Int} (ha : EV X H0 ρ a (.int i)) (hb : EV X H0 ρ b (.int j)) (h : 0 < j) : EV X H0 ρ (.BinOp a .Mod b pos) (.int (i % j)) := .mk fun σ H s r => de_mod (ha σ H s r) (hb σ H s r) h
theorem ev_div {i j : Int} (ha : EV X H0 ρ a (.int i)) (hb : EV X H0 ρ b (.int j)) (h : CDiv i j) : EV X H0 ρ (.BinOp a .FloorDiv b pos) (.int (i / j)) := .mk fun σ H s r => de_div (ha σ H s r) (hb σ H s r) h
theorem eb_lt {i j : Int} (ha : EV X H0 ρ a (.int i)) (hb : EV X H0 ρ b (.int j)) : EB X H0 ρ (.Compare a [.Lt] [b] pos) (decide (i < j)) := .mk fun σ H s r => db_lt (ha σ H s r) (hb σ H s r)
theorem eb_gt {i j : Int} (ha : EV X H0 ρ a (.int i)) (hb : EV X H0 ρ b (.int j)) : EB X H0 ρ (.Compare a [.Gt] [b] pos) (decide (j < i)) := .mk fun σ H s r => db_gt (ha σ H s r) (hb σ H s r)
theorem eb_ge {i j : Int} (ha : EV X H0 ρ a (.int i)) (hb : EV X H0 ρ b (.int j)) : EB X H0 ρ (.Compare a [.GtE] [b] pos) (decide (j ≤ i)) := .mk fun σ H s r => db_ge (ha σ H s r) (hb σ H s r)
theorem ev_lt {i j : Int} (ha : EV X H0 ρ a (.int i)) (hb : EV X H0 ρ b (.int j)) : EV X H0 ρ (.Compare a [.Lt] [b] pos) (.bool (decide (i < j))) := .mk fun σ H s r => de_lt (ha σ H s r) (hb σ H s r)
theorem ev_ltT {ns ms : List Int} (hA : ∀ i, At (X i) P w K mg base k) (ha : EV X H0 ρ a (.tuple (ns.map .int))) (hb : EV X H0 ρ b (.tuple (ms.map .int))) : EV X H0 ρ (.Compare a [.Lt] [b] pos) (.bool (HT.lexLt ns ms)) := .mk fun σ H s r =>
  de_cmp (fun i => (hA i).K ▸ op_ltT (hA i).room.units0) (fun v w' H Q r1 r2 q => by
    cases r1 with
    | tup h1 t1 => cases r2 with
      | tup h2 t2 =>
        rw [t1.ints_inv] at h1
        rw [t2.ints_inv] at h2
        exact ⟨_, _, ns, ms, rfl, rfl, SqT.of h1, SqT.of h2, q _ H (Same.refl _) (.bl _)⟩) (ha σ H s r) (hb σ H s r) (nomark _)
theorem ev_chain {i j k : Int} (ha : EV X H0 ρ a (.int i)) (hb : EV X H0 ρ b (.int j)) (hc : EV X H0 ρ c (.int k)) (hm : lastMarks [.LtE, .LtE] [b, c] = false := by with_unfolding_all rfl) : EV X H0 ρ (.Compare a [.LtE, .LtE] [b, c] pos) (.bool (decide (i ≤ j) && decide (j ≤ k))) := .mk fun σ H s r => de_chain (ha σ H s r) (hb σ H s r) (hc σ H s r) hm
/-- the shape that the equality rules want -/
abbrev Shp (d : PyData) : Prop := SeqAt.shaped d = true
theorem ev_eq {d1 d2 : PyData} (hA : ∀ i, At (X i) P w K mg base k) (ha : EV X H0 ρ a d1) (hb : EV X H0 ρ b d2) (h1 : Shp d1) (h2 : Shp d2) : EV X H0 ρ (.Compare a [.Eq] [b] pos) (.bool (PyData.eqv d1 d2)) := .mk fun σ H s r => de_eqD (fun i => (hA i).hu) (ha σ H s r) (hb σ H s r) h1 h2
theorem eb_eq {d1 d2 : PyData} (hA : ∀ i, At (X i) P w K mg base k) (ha : EV X H0 ρ a d1) (hb : EV X H0 ρ b d2) (h1 : Shp d1) (h2 : Shp d2) : EB X H0 ρ (.Compare a [.Eq] [b] pos) (PyData.eqv d1 d2) := .mk fun σ H s r => db_eqD (fun i => (hA i).hu) (ha σ H s r) (hb σ H s r) h1 h2
theorem ev_ne {d1 d2 : PyData} (hA : ∀ i, At (X i) P w K mg base k) (ha : EV X H0 ρ a d1) (hb : EV X H0 ρ b d2) (h1 : Shp d1) (h2 : Shp d2) : EV X H0 ρ (.Compare a [.NotEq] [b] pos) (.bool (!PyData.eqv d1 d2)) := .mk fun σ H s r => de_neD (fun i => (hA i).hu) (ha σ H s r) (hb σ H s r) h1 h2
theorem eb_ne {d1 d2 : PyData} (hA : ∀ i, At (X i) P w K mg base k) (ha : EV X H0 ρ a d1) (hb : EV X H0 ρ b d2) (h1 : Shp d1) (h2 : Shp d2) : EB X H0 ρ (.Compare a [.NotEq] [b] pos) (!PyData.eqv d1 d2) := .mk fun σ H s r => db_neD (fun i => (hA i).hu) (ha σ H s r) (hb σ H s r) h1 h2
/-- texts -/
theorem ev_eqS {x y : Str} (ha : EV X H0 ρ a (.str x)) (hb : EV X H0 ρ b (.str y)) : EV X H0 ρ (.Compare a [.Eq] [b] pos) (.bool (decide (x = y))) := .mk fun σ H s r =>
  de_cmp (fun _ => op_eq) (fun v w' H Q r1 r2 q => by cases r1; cases r2; exact ⟨rfl, q _ H (Same.refl _) (by rw [show decide (V.str x = V.str y) = decide (x = y) by simp]; exact .bl _)⟩) (ha σ H s r) (hb σ H s r) (nomark _)
theorem eb_eqS {x y : Str} (ha : EV X H0 ρ a (.str x)) (hb : EV X H0 ρ b (.str y)) : EB X H0 ρ (.Compare a [.Eq] [b] pos) (decide (x = y)) := .mk fun σ H s r =>
  db_cmp (fun _ => op_eq) (fun v w' H Q r1 r2 q => by cases r1; cases r2; exact ⟨rfl, q _ H (Same.refl _) (by rw [show decide (V.str x = V.str y) = decide (x = y) by simp]; exact .bl _)⟩) (ha σ H s r) (hb σ H s r) (nomark _)
theorem eb_neS {x y : Str} (ha : EV X H0 ρ a (.str x)) (hb : EV X H0 ρ b (.str y)) : EB X H0 ρ (.Compare a [.NotEq] [b] pos) (!decide (x = y)) := .mk fun σ H s r =>
  db_cmp (fun _ => op_ne) (fun v w' H Q r1 r2 q => by cases r1; cases r2; exact ⟨rfl, q _ H (Same.refl _) (by rw [show decide (V.str x = V.str y) = decide (x = y) by simp]; exact .bl _)⟩) (ha σ H s r) (hb σ H s r) (nomark _)
/-- ints -/
theorem ev_eqI {x y : Int} (ha : EV X H0 ρ a (.int x)) (hb : EV X H0 ρ b (.int y)) : EV X H0 ρ (.Compare a [.Eq] [b] pos) (.bool (decide (x = y))) := .mk fun σ H s r =>
  de_cmp (fun _ => op_eq) (fun v w' H Q r1 r2 q => by cases r1; cases r2; exact ⟨rfl, q _ H (Same.refl _) (by rw [show decide (V.int x = V.int y) = decide (x = y) by simp]; exact .bl _)⟩) (ha σ H s r) (hb σ H s r) (nomark _)
theorem eb_eqI {x y : Int} (ha : EV X H0 ρ a (.int x)) (hb : EV X H0 ρ b (.int y)) : EB X H0 ρ (.Compare a [.Eq] [b] pos) (decide (x = y)) := .mk fun σ H s r =>
  db_cmp (fun _ => op_eq) (fun v w' H Q r1 r2 q => by cases r1; cases r2; exact ⟨rfl, q _ H (Same.refl _) (by rw [show decide (V.int x = V.int y) = decide (x = y) by simp]; exact .bl _)⟩) (ha σ H s r) (hb σ H s r) (nomark _)
theorem ev_neI {x y : Int} (ha : EV X H0 ρ a (.int x)) (hb : EV X H0 ρ b (.int y)) : EV X H0 ρ (.Compare a [.NotEq] [b] pos) (.bool (!decide (x = y))) := .mk fun σ H s r =>
  de_cmp (fun _ => op_ne) (fun v w' H Q r1 r2 q => by cases r1; cases r2; exact ⟨rfl, q _ H (Same.refl _) (by rw [show decide (V.int x = V.int y) = decide (x = y) by simp]; exact .bl _)⟩) (ha σ H s r) (hb σ H s r) (nomark _)
theorem eb_neI {x y : Int} (ha : EV X H0 ρ a (.int x)) (hb : EV X H0 ρ b (.int y)) : EB X H0 ρ (.Compare a [.NotEq] [b] pos) (!decide (x = y)) := .mk fun σ H s r =>
  db_cmp (fun _ => op_ne) (fun v w' H Q r1 r2 q => by cases r1; cases r2; exact ⟨rfl, q _ H (Same.refl _) (by rw [show decide (V.int x = V.int y) = decide (x = y) by simp]; exact .bl _)⟩) (ha σ H s r) (hb σ H s r) (nomark _)
theorem ev_one {op} {d : PyData} (h : EV X H0 ρ a d) : EV X H0 ρ (.BoolOp op [a] pos) d := .mk fun σ H s r => de_one (h σ H s r)
theorem ev_and {p q : Bool} (ha : EV X H0 ρ a (.bool p)) (hb : p = true → EV X H0 ρ (.BoolOp .And (b :: rest) pos) (.bool q)) : EV X H0 ρ (.BoolOp .And (a :: b :: rest) pos) (.bool (p && q)) := .mk fun σ H s r => de_and (ha σ H s r) fun h => hb h σ H s r
theorem ev_or {p q : Bool} (ha : EV X H0 ρ a (.bool p)) (hb : p = false → EV X H0 ρ (.BoolOp .Or (b :: rest) pos) (.bool q)) : EV X H0 ρ (.BoolOp .Or (a :: b :: rest) pos) (.bool (p || q)) := .mk fun σ H s r => de_or (ha σ H s r) fun h => hb h σ H s r
theorem ev_not {p : Bool} (ha : EV X H0 ρ a (.bool p)) : EV X H0 ρ (.UnaryOp .Not a pos) (.bool (!p)) := .mk fun σ H s r => de_not (ha σ H s r)
theorem et_w {Φ : Bool → Prop} (h : EW X H0 ρ e Φ) : ET X H0 ρ e Φ := .mk fun σ H s r => dt_w (h σ H s r)
theorem ew_and1 {Φ : Bool → Prop} (h : ET X H0 ρ a Φ) : EW X H0 ρ (.BoolOp .And [a] pos) Φ := .mk fun σ H s r => dw_and1 (h σ H s r)
theorem ew_or1 {Φ : Bool → Prop} (h : ET X H0 ρ a Φ) : EW X H0 ρ (.BoolOp .Or [a] pos) Φ := .mk fun σ H s r => dw_or1 (h σ H s r)
theorem eb_and {p q : Bool} (ha : EB X H0 ρ a p) (hb : p = true → EW X H0 ρ (.BoolOp .And (b :: rest) pos) (fun x => x = q)) : EW X H0 ρ (.BoolOp .And (a :: b :: rest) pos) (fun x => x = (p && q)) := .mk fun σ H s r => db_and (ha σ H s r) fun h => hb h σ H s r
theorem eb_or {p q : Bool} (ha : EB X H0 ρ a p) (hb : p = false → EW X H0 ρ (.BoolOp .Or (b :: rest) pos) (fun x => x = q)) : EW X H0 ρ (.BoolOp .Or (a :: b :: rest) pos) (fun x => x = (p || q)) := .mk fun σ H s r => db_or (ha σ H s r) fun h => hb h σ H s r
theorem ew_and {Φ Ψ Θ : Bool → Prop} (ha : ET X H0 ρ a Φ) (hb : Φ true → EW X H0 ρ (.BoolOp .And (b :: rest) pos) Ψ) (h1 : Φ false → Θ false) (h2 : ∀ k, Φ true → Ψ k → Θ k) : EW X H0 ρ (.BoolOp .And (a :: b :: rest) pos) Θ := .mk fun σ H s r => dw_and (ha σ H s r) (fun h => hb h σ H s r) h1 h2
theorem ew_or {Φ Ψ Θ : Bool → Prop} (ha : ET X H0 ρ a Φ) (hb : Φ false → EW X H0 ρ (.BoolOp .Or (b :: rest) pos) Ψ) (h1 : Φ true → Θ true) (h2 : ∀ k, Φ false → Ψ k → Θ k) : EW X H0 ρ (.BoolOp .Or (a :: b :: rest) pos) Θ := .mk fun σ H s r => dw_or (ha σ H s r) (fun h => hb h σ H s r) h1 h2
theorem eb_not {p : Bool} (h : EB X H0 ρ a p) : EB X H0 ρ (.UnaryOp .Not a pos) (!p) := .mk fun σ H s r => db_not (h σ H s r)
theorem et_not {Φ : Bool → Prop} (h : ET X H0 ρ a Φ) : ET X H0 ρ (.UnaryOp .Not a pos) (fun k => Φ (!k)) := .mk fun σ H s r => dt_not (h σ H s r)
theorem eb_val {p : Bool} (h : EV X H0 ρ e (.bool p)) (he : ∀ i whole, isTrue e (X i).env whole = (do let v ← whole; standAt e.pos; holding [v] (truthy v)) := by intro _ _; rfl) : EB X H0 ρ e p := .mk fun σ H s r => db_val (h σ H s r) he
theorem et_val {Φ : Bool → Prop} (h : EP X H0 ρ e (fun d => ∃ k, d = .bool k ∧ Φ k)) (he : ∀ i whole, isTrue e (X i).env whole = (do let v ← whole; standAt e.pos; holding [v] (truthy v)) := by intro _ _; rfl) : ET X H0 ρ e Φ := .mk fun σ H s r => dt_val (h σ H s r) he
theorem ep_ifExp {Φ : Bool → Prop} {Ψ : PyData → Prop} (hc : ET X H0 ρ c Φ) (ha : Φ true → EP X H0 ρ a Ψ) (hb : Φ false → EP X H0 ρ b Ψ) : EP X H0 ρ (.IfExp c a b pos) Ψ := .mk fun σ H s r => dp_ifExp (hc σ H s r) (fun h => ha h σ H s r) fun h => hb h σ H s r
theorem ev_is_non {d : PyData} (ha : EV X H0 ρ a d) {j pos'} : EV X H0 ρ (.Compare a [.Is] [.Constant .none j pos'] pos) (.bool (isNon d)) := .mk fun σ H s r => de_is_non (ha σ H s r)
theorem eb_isnot_bl {p q : Bool} (ha : EV X H0 ρ a (.bool p)) (hb : EV X H0 ρ b (.bool q)) : EB X H0 ρ (.Compare a [.IsNot] [b] pos) (!decide (p = q)) := .mk fun σ H s r => db_isnot_bl (ha σ H s r) (hb σ H s r)
/-- a def's promise by a partial function of data -/
def spE (F : List PyData → Option PyData) (n : Nat) : Sp := spF (fun ds => ∃ d, F ds = some d) (fun ds d => F ds = some d) n
theorem ev_call {F : List PyData → Option PyData} {n : Nat} {ds : List PyData} {d : PyData} (hA : ∀ i, At (X i) P w K mg base k) (hf : Fn P w K mg base k x ps (spE F n)) (ha : EL X H0 ρ (e :: es) ds) (hd : F ds = some d) (hn : ds.length = n := by rfl)
    (hg : ∀ i, Gl (X i) x := by intro _; rfl) (hdb : (x == ("__debug__" : Str)) = false := by decide) (he : ∀ i, starEach (e :: es) (X i).env = (false, eval e (X i).env) :: starEach es (X i).env := by intro _; rfl) (hpl : ∀ i, (backTo pos (starEach es (X i).env)).any (·.1) = false := by intro _; rfl) :
    EV X H0 ρ (.Call (.Name x p) (e :: es) [] pos) d := .mk fun σ H s r => de_call hA hf (ha σ H s r) ⟨d, hd⟩ (fun d' h => Option.some.inj (h.symm.trans hd)) hn hg hdb he hpl
theorem ep_call {pre : List PyData → Prop} {post : List PyData → PyData → Prop} {n : Nat} {Ψ : List PyData → Prop} {Φ : PyData → Prop} (hA : ∀ i, At (X i) P w K mg base k) (hf : Fn P w K mg base k x ps (spF pre post n)) (ha : EA X H0 ρ (e :: es) Ψ)
    (hp : ∀ ds, Ψ ds → ds.length = n ∧ pre ds ∧ ∀ d, post ds d → Φ d) (hg : ∀ i, Gl (X i) x := by intro _; rfl)
    (hdb : (x == ("__debug__" : Str)) = false := by decide) (he : ∀ i, starEach (e :: es) (X i).env = (false, eval e (X i).env) :: starEach es (X i).env := by intro _; rfl) (hpl : ∀ i, (backTo pos (starEach es (X i).env)).any (·.1) = false := by intro _; rfl) :
    EP X H0 ρ (.Call (.Name x p) (e :: es) [] pos) Φ := .mk fun σ H s r => dp_call hA hf (ha σ H s r) hp hg hdb he hpl
theorem ev_lenT {ds : List PyData} (hA : ∀ i, At (X i) P w K mg base k) (hm : mg "len" = none) (h : EV X H0 ρ e (.tuple ds)) (hg : ∀ i, Gl (X i) "len" := by intro _; rfl) (ns : ∀ i, starEach (e :: []) (X i).env = (false, eval e (X i).env) :: starEach [] (X i).env := by intro _; rfl) : EV X H0 ρ (.Call (.Name "len" p) [e] [] pos) (.int ds.length) := .mk fun σ H s r => de_lenT hA hm (h σ H s r) hg ns
theorem ev_lenL {ds : List PyData} (hA : ∀ i, At (X i) P w K mg base k) (hm : mg "len" = none) (h : EV X H0 ρ e (.list ds)) (hg : ∀ i, Gl (X i) "len" := by intro _; rfl) (ns : ∀ i, starEach (e :: []) (X i).env = (false, eval e (X i).env) :: starEach [] (X i).env := by intro _; rfl) : EV X H0 ρ (.Call (.Name "len" p) [e] [] pos) (.int ds.length) := .mk fun σ H s r => de_lenL hA hm (h σ H s r) hg ns
theorem ev_tupleOf {ds : List PyData} (hA : ∀ i, At (X i) P w K mg base k) (hm : mg "tuple" = none) (h : EV X H0 ρ e (.list ds)) (hg : ∀ i, Gl (X i) "tuple" := by intro _; rfl) (ns : ∀ i, starEach (e :: []) (X i).env = (false, eval e (X i).env) :: starEach [] (X i).env := by intro _; rfl) : EV X H0 ρ (.Call (.Name "tuple" p) [e] [] pos) (.tuple ds) := .mk fun σ H s r => de_tupleOf hA hm (h σ H s r) hg ns
theorem ev_all {bs : List Bool} (hA : ∀ i, At (X i) P w K mg base k) (hm : mg "all" = none) (h : EV X H0 ρ e (.list (bs.map PyData.bool))) (hg : ∀ i, Gl (X i) "all" := by intro _; rfl) (ns : ∀ i, starEach (e :: []) (X i).env = (false, eval e (X i).env) :: starEach [] (X i).env := by intro _; rfl) : EV X H0 ρ (.Call (.Name "all" p) [e] [] pos) (.bool (bs.all id)) := .mk fun σ H s r => de_all hA hm (h σ H s r) hg ns
theorem ev_gcd {i j : Int} (hA : ∀ i, At (X i) P w K mg base k) (hm : mg "gcd" = some (.builtin "math.gcd")) (h : EV X H0 ρ a (.int i)) (h' : EV X H0 ρ b (.int j)) (hg : ∀ i, Gl (X i) "gcd" := by intro _; rfl)
    (hs : ∀ i, starEach [a, b] (X i).env = (false, eval a (X i).env) :: starEach [b] (X i).env := by intro _; rfl) (hs' : ∀ i, starEach [b] (X i).env = (false, eval b (X i).env) :: starEach [] (X i).env := by intro _; rfl)
    (hpl : ∀ i, (backTo pos (starEach [b] (X i).env)).any (·.1) = false := by intro _; rfl) :
    EV X H0 ρ (.Call (.Name "gcd" p) [a, b] [] pos) (.int ((Nat.gcd i.natAbs j.natAbs : Nat) : Int)) := .mk fun σ H s r => de_gcd hA hm (h σ H s r) (h' σ H s r) hg hs hs' hpl
theorem ev_isi {d : PyData} {T : String} {y : Str} {q : Bool} {p2 : Pos} (hA : ∀ i, At (X i) P w K mg base k) (hm : mg "isinstance" = none) (hy : mg y = none) (hv : bootBuiltins y = some (.type T)) (h : EV X H0 ρ a d) (hq : noDict d = true → kitB (tyN d) T = some q)
    (hg : ∀ i, Gl (X i) "isinstance" := by intro _; rfl) (hg2 : ∀ i, Gl (X i) y := by intro _; rfl) (hn : y ≠ "__name__" := by decide) (hdb : (y == ("__debug__" : Str)) = false := by decide)
    (hs : ∀ i, starEach [a, .Name y p2] (X i).env = (false, eval a (X i).env) :: starEach [.Name y p2] (X i).env := by intro _; rfl) (hs' : ∀ i, starEach [.Name y p2] (X i).env = (false, eval (.Name y p2) (X i).env) :: starEach [] (X i).env := by intro _; rfl)
    (hpl : ∀ i, (backTo pos (starEach [.Name y p2] (X i).env)).any (·.1) = false := by intro _; rfl) :
    EV X H0 ρ (.Call (.Name "isinstance" p) [a, .Name y p2] [] pos) (.bool q) := .mk fun σ H s r => de_isi hA hm hy hv (h σ H s r) hq hg hg2 hn hdb hs hs' hpl
theorem ev_ixT {ds : List PyData} {i : Int} {d : PyData} (hA : ∀ i, At (X i) P w K mg base k) (ha : EV X H0 ρ a (.tuple ds)) (hb : EV X H0 ρ b (.int i)) (h : atI ds i = some d) (hp : PlainIx b := by exact fun _ _ => rfl) : EV X H0 ρ (.Subscript a b pos) d := .mk fun σ H s r => de_ixT hA (ha σ H s r) (hb σ H s r) h hp
theorem ev_ixL {ds : List PyData} {i : Int} {d : PyData} (hA : ∀ i, At (X i) P w K mg base k) (ha : EV X H0 ρ a (.list ds)) (hb : EV X H0 ρ b (.int i)) (h : atI ds i = some d) (hp : PlainIx b := by exact fun _ _ => rfl) : EV X H0 ρ (.Subscript a b pos) d := .mk fun σ H s r => de_ixL hA (ha σ H s r) (hb σ H s r) h hp
theorem ev_tailT {ds : List PyData} {j : Nat} {p2 : Pos} (hA : ∀ i, At (X i) P w K mg base k) (ha : EV X H0 ρ a (.tuple ds)) (hb : EV X H0 ρ b (.int j)) : EV X H0 ρ (.Subscript a (.Slice (some b) none none p2) pos) (.tuple (ds.drop j)) := .mk fun σ H s r => de_tailT hA (ha σ H s r) (hb σ H s r)
/-! #### walks -/
theorem ei_list {ds : List PyData} (hA : ∀ i, At (X i) P w K mg base k) (h : EV X H0 ρ e (.list ds)) : EI X H0 ρ tg e ds := .mk fun σ H s r => di_list hA (h σ H s r)
theorem ei_tup {ds : List PyData} (hA : ∀ i, At (X i) P w K mg base k) (h : EV X H0 ρ e (.tuple ds)) : EI X H0 ρ tg e ds := .mk fun σ H s r => di_tup hA (h σ H s r)
theorem ei_rng1 {n : Int} (hA : ∀ i, At (X i) P w K mg base k) (hm : mg "range" = none) (h : EV X H0 ρ a (.int n)) (hn : -1000 ≤ n ∧ n ≤ 1000) (hg : ∀ i, Gl (X i) "range" := by intro _; rfl)
    (ns : ∀ i, starEach [a] (X i).env = (false, eval a (X i).env) :: starEach [] (X i).env := by intro _; rfl) : EI X H0 ρ tg (.Call (.Name "range" p) [a] [] pos) (rgD 0 n.toNat) := .mk fun σ H s r => di_rng1 hA hm (h σ H s r) hn hg ns
theorem ei_rng2 {lo hi : Int} (hA : ∀ i, At (X i) P w K mg base k) (hm : mg "range" = none) (h : EV X H0 ρ a (.int lo)) (h' : EV X H0 ρ b (.int hi)) (hn : -400 ≤ lo ∧ lo ≤ 400 ∧ -400 ≤ hi ∧ hi ≤ 400) (hg : ∀ i, Gl (X i) "range" := by intro _; rfl)
    (ns : ∀ i, starEach [a, b] (X i).env = (false, eval a (X i).env) :: starEach [b] (X i).env := by intro _; rfl) (ns' : ∀ i, starEach [b] (X i).env = (false, eval b (X i).env) :: starEach [] (X i).env := by intro _; rfl) : EI X H0 ρ tg (.Call (.Name "range" p) [a, b] [] pos) (rgD lo (hi - lo).toNat) := .mk fun σ H s r => di_rng2 hA hm (h σ H s r) (h' σ H s r) hn hg ns ns'
theorem ei_zipT {ds es : List PyData} {elts : List Expr} {kk : Nat} {tpos : Pos} (hA : ∀ i, At (X i) P w K mg base k) (hm : mg "zip" = none) (h : EV X H0 ρ a (.tuple ds)) (h' : EV X H0 ρ b (.tuple es)) (hg : ∀ i, Gl (X i) "zip" := by intro _; rfl)
    (ns : ∀ i, starEach [a, b] (X i).env = (false, eval a (X i).env) :: starEach [b] (X i).env := by intro _; rfl) (ns' : ∀ i, starEach [b] (X i).env = (false, eval b (X i).env) :: starEach [] (X i).env := by intro _; rfl)
    (hpl : ∀ i, (backTo pos (starEach [b] (X i).env)).any (·.1) = false := by intro _; rfl) : EI X H0 ρ (.Tuple elts kk tpos) (.Call (.Name "zip" p) [a, b] [] pos) ((ds.zip es).map fun p => pairD p.1 p.2) := .mk fun σ H s r => di_zipT hA hm (h σ H s r) (h' σ H s r) hg ns ns' hpl
/-! #### comprehensions -/
/-- the names and the scope of where one stands -/
structure Sc {I : Type} (X : I → Cx) (N : List Str) (sc : Scope) : Prop where
  nd : N.Nodup
  hN : ∀ i, (X i).N = N
  hs : ∀ i, (X i).env.scope = sc
theorem Sc.ndx {N : List Str} {sc : Scope} (S : Sc X N sc) : ∀ i, (X i).N.Nodup := fun i => by rw [S.hN i]; exact S.nd
theorem Sc.ok {N : List Str} {sc scope : Scope} {own : List (Str × Nat)} (S : Sc X N sc) (h : blkC N sc scope own = true) : ∀ i, BlkOk (X i).N (X i).env.scope scope own := fun i => by rw [S.hN i, S.hs i]; exact blkOk_by h
theorem wipe_own {σ : St} {i : Nat} {v : Option V} : wipe ((wipe σ [i]).set i v) [i] = wipe σ [i] := by
  show ((σ.set i none).set i v).set i none = σ.set i none
  rw [List.set_set, List.set_set]
theorem set_comm'' {α : Type} (l : List α) (i j : Nat) (a : α) : (l.set i a).set j a = (l.set j a).set i a := by
  by_cases h : i = j
  · rw [h]
  · rw [List.set_comm _ _ h]
theorem wipe_set {σ : St} {i : Nat} : ∀ (vs : List Nat), wipe (σ.set i none) vs = (wipe σ vs).set i none
  | [] => rfl
  | v :: vs => by
    show (wipe (σ.set i none) vs).set v none = ((wipe σ vs).set v none).set i none
    rw [wipe_set vs, set_comm'']
theorem wipe_wipe {σ : St} : ∀ {vs : List Nat}, wipe (wipe σ vs) vs = wipe σ vs
  | [] => rfl
  | v :: vs => by
    show (wipe ((wipe σ vs).set v none) vs).set v none = (wipe σ vs).set v none
    rw [wipe_set, List.set_set, wipe_wipe]
/-- a clause's tests, by data -/
structure EBs {I : Type} (X : I → Cx) (H0 : Hp) (ρ : Env1) (ifs : List Expr) (b : Bool) : Prop where
  run : ∀ σ H, Same H0 H → RpS H σ ρ → DTs X σ H ifs (fun x => x = b)
instance {I : Type} {X : I → Cx} {H0 : Hp} {ρ : Env1} {ifs : List Expr} {b : Bool} : CoeFun (EBs X H0 ρ ifs b) (fun _ => ∀ σ H, Same H0 H → RpS H σ ρ → DTs X σ H ifs (fun x => x = b)) := ⟨EBs.run⟩
theorem ebs_nil : EBs X H0 ρ [] true := .mk fun σ H s r => dts_nil
theorem ebs_one {b : Bool} (h : EB X H0 ρ c b) : EBs X H0 ρ [c] b := .mk fun σ H s r => dts_one (h σ H s r)
/-- what a store of d makes of the slots, by data -/
def TgR (g : TG) (d : PyData) (vs : List Nat) (upd : Env1 → Env1) : Prop := ∀ (σ : St), ∃ S, TgD g σ d S ∧ ∀ σ2 H ρ, RpS H σ ρ → S σ2 H → RpS H σ2 (upd ρ) ∧ wipe σ2 vs = wipe σ vs
theorem tgr_name {i : Nat} {d : PyData} : TgR (gName i) d [i] (fun ρ => ρ.set i (some (.dat d))) := fun σ => ⟨_, tg_name, fun σ2 H ρ r ⟨v, rv, e2⟩ => by
  subst e2
  exact ⟨r.set rv, by show ((σ.set i _).set i none) = σ.set i none; rw [List.set_set]⟩⟩
theorem set_comm' {α : Type} (l : List α) (i j : Nat) (a : α) : (l.set i a).set j a = (l.set j a).set i a := by
  by_cases h : i = j
  · rw [h]
  · rw [List.set_comm _ _ h]
theorem tgr_two {i j : Nat} {d d' : PyData} {K : PySem.W.Frag} : TgR (gTup K 2 (gCons (gName i) (gCons (gName j) gNil))) (.tuple [d, d']) [i, j] (fun ρ => (ρ.set i (some (.dat d))).set j (some (.dat d'))) := fun σ => ⟨_, tg_two, fun σ2 H ρ r ⟨v, v', r1, r2, e2⟩ => by
  subst e2
  refine ⟨(r.set r1).set r2, ?_⟩
  show ((((σ.set i (some v)).set j (some v')).set j none).set i none) = (σ.set j none).set i none
  rw [List.set_set, set_comm', List.set_set, set_comm']⟩
/-- [elt for tg in e if ..], all known -/
theorem ev_lcF {elt : Expr} {ifs : List Expr} {scope : Scope} {own : List (Str × Nat)} {g : TG} {ds : List PyData} (hA : ∀ i, At (X i) P w K mg base k) {N : List Str} {sc : Scope} (S : Sc X N sc) (hg : ∀ i, PG (blkF X scope i) tg g) (src : EI X H0 ρ tg e ds) (F : PyData → Option PyData)
    (step : ∀ d, d ∈ ds → ∃ upd, TgR g d (own.map (·.2)) upd ∧ EBs (blkF X scope) H0 (upd (wipeR ρ (own.map (·.2)))) ifs (F d).isSome ∧ (∀ y, F d = some y → EV (blkF X scope) H0 (upd (wipeR ρ (own.map (·.2)))) elt y))
    (ok : blkC N sc scope own = true := by decide +kernel) (hs : ∀ i x, foldedSetIterable e (X i).env x = pure x := by intro _ _; rfl) :
    EV X H0 ρ (.ListComp elt [⟨tg, e, ifs, 0⟩] scope pos) (.list (ds.filterMap F)) := .mk fun σ H s r =>
  de_lcF hA S.ndx (S.ok ok) hg (src σ H s r) F (fun d hd => by
    obtain ⟨up, tg, h1, h2⟩ := step d hd
    obtain ⟨S', hS, q⟩ := tg (wipe σ (own.map (·.2)))
    refine ⟨S', hS, fun H' σ2 s' z => ?_⟩
    obtain ⟨r2, w2⟩ := q σ2 H' _ ((r.mono s').wipe _) z
    exact ⟨w2.trans wipe_wipe, h1 σ2 H' (s.trans s') r2, fun y e1 => h2 y e1 σ2 H' (s.trans s') r2⟩) hs
theorem ev_lcMap {elt : Expr} {scope : Scope} {y : Str} {i : Nat} {tp : Pos} {ds : List PyData} (hA : ∀ i, At (X i) P w K mg base k) {N : List Str} {sc : Scope} (S : Sc X N sc) (src : EI X H0 ρ (.Name y tp) e ds) (f : PyData → PyData)
    (step : ∀ d, d ∈ ds → EV (blkF X scope) H0 ((wipeR ρ [i]).set i (some (.dat d))) elt (f d))
    (ok : blkC N sc scope [(y, i)] = true := by decide +kernel)
    (hi : ∀ i', (X i').N[i]? = some y := by intro _; rfl) (hx : ∀ i', Loc (blkF X scope i').env.scope y := by intro _; first | exact Or.inl rfl | exact Or.inr rfl) (hf : ∀ i', (blkF X scope i').fn y = true ∨ (blkF X scope i').env.scope.names.lookup y = some .local := by intro _; first | exact Or.inr rfl | exact Or.inl rfl)
    (hs : ∀ i x, foldedSetIterable e (X i).env x = pure x := by intro _ _; rfl) :
    EV X H0 ρ (.ListComp elt [⟨.Name y tp, e, [], 0⟩] scope pos) (.list (ds.map f)) := .mk fun σ H s r =>
  de_lcMap hA S.ndx (src σ H s r) f (fun d hd H' v s' rv => step d hd _ H' (s.trans s') (((r.mono s').wipe [i]).set rv)) (S.ok ok) (fun i' => pg_name (S.ndx i'.1) (hi i'.1) (hx i') (hf i')) hs (fun v => wipe_own)
theorem ev_lcIf {elt : Expr} {scope : Scope} {y : Str} {i : Nat} {tp : Pos} {ds : List PyData} (hA : ∀ i, At (X i) P w K mg base k) {N : List Str} {sc : Scope} (S : Sc X N sc) (src : EI X H0 ρ (.Name y tp) e ds) (t : PyData → Bool) (f : PyData → PyData)
    (step : ∀ d, d ∈ ds → EB (blkF X scope) H0 ((wipeR ρ [i]).set i (some (.dat d))) c (t d) ∧ (t d = true → EV (blkF X scope) H0 ((wipeR ρ [i]).set i (some (.dat d))) elt (f d)))
    (ok : blkC N sc scope [(y, i)] = true := by decide +kernel)
    (hi : ∀ i', (X i').N[i]? = some y := by intro _; rfl) (hx : ∀ i', Loc (blkF X scope i').env.scope y := by intro _; first | exact Or.inl rfl | exact Or.inr rfl) (hf : ∀ i', (blkF X scope i').fn y = true ∨ (blkF X scope i').env.scope.names.lookup y = some .local := by intro _; first | exact Or.inr rfl | exact Or.inl rfl)
    (hs : ∀ i x, foldedSetIterable e (X i).env x = pure x := by intro _ _; rfl) :
    EV X H0 ρ (.ListComp elt [⟨.Name y tp, e, [c], 0⟩] scope pos) (.list ((ds.filter t).map f)) := .mk fun σ H s r =>
  de_lcIf hA S.ndx (src σ H s r) t f (fun d hd H' v s' rv => by
    have q := ((r.mono s').wipe [i]).set (i := i) rv
    exact ⟨(step d hd).1 _ H' (s.trans s') q, fun h => (step d hd).2 h _ H' (s.trans s') q⟩) (S.ok ok) (fun i' => pg_name (S.ndx i'.1) (hi i'.1) (hx i') (hf i')) hs (fun v => wipe_own)
/-- [elt for y in e for z in e1] -/
theorem ev_lc2 {elt e1 : Expr} {scope : Scope} {y z : Str} {i j : Nat} {tp tq : Pos} {ds : List PyData} (hA : ∀ i, At (X i) P w K mg base k) {N : List Str} {sc : Scope} (S : Sc X N sc) (src : EI X H0 ρ (.Name y tp) e ds) (es : PyData → List PyData) (f : PyData → PyData → PyData) (hz : (ds.flatMap fun d => (es d).map (f d)).length ≤ sizeLine)
    (step : ∀ d, d ∈ ds → EI (blkF X scope) H0 ((wipeR ρ [i, j]).set i (some (.dat d))) (.Name z tq) e1 (es d) ∧ ∀ d', d' ∈ es d → EV (blkF X scope) H0 ((((wipeR ρ [i, j]).set i (some (.dat d))).set j none).set j (some (.dat d'))) elt (f d d'))
    (ok : blkC N sc scope [(y, i), (z, j)] = true := by decide +kernel) (hij : i ≠ j := by decide)
    (hi : ∀ i', (X i').N[i]? = some y := by intro _; rfl) (hj : ∀ i', (X i').N[j]? = some z := by intro _; rfl)
    (hx : ∀ i', Loc (blkF X scope i').env.scope y := by intro _; first | exact Or.inl rfl | exact Or.inr rfl) (hf : ∀ i', (blkF X scope i').fn y = true ∨ (blkF X scope i').env.scope.names.lookup y = some .local := by intro _; first | exact Or.inr rfl | exact Or.inl rfl)
    (hx' : ∀ i', Loc (blkF X scope i').env.scope z := by intro _; first | exact Or.inl rfl | exact Or.inr rfl) (hf' : ∀ i', (blkF X scope i').fn z = true ∨ (blkF X scope i').env.scope.names.lookup z = some .local := by intro _; first | exact Or.inr rfl | exact Or.inl rfl)
    (hs : ∀ i x, foldedSetIterable e (X i).env x = pure x := by intro _ _; rfl) (hs1 : ∀ env x, foldedSetIterable e1 env x = pure x := by intro _ _; rfl) :
    EV X H0 ρ (.ListComp elt [⟨.Name y tp, e, [], 0⟩, ⟨.Name z tq, e1, [], 0⟩] scope pos) (.list (ds.flatMap fun d => (es d).map (f d))) := .mk fun σ H s r =>
  de_lc2 hA S.ndx (S.ok ok) hij (fun i' => pg_name (S.ndx i'.1) (hi i'.1) (hx i') (hf i')) (fun i' => pg_name (S.ndx i'.1) (hj i'.1) (hx' i') (hf' i')) (src σ H s r) es f hz (fun d hd H' v s' rv => by
    have q := ((r.mono s').wipe [i, j]).set (i := i) rv
    exact ⟨(step d hd).1 _ H' (s.trans s') q, fun d' hd' H'' v' s'' rv' => (step d hd).2 d' hd' _ H'' ((s.trans s').trans s'') ((q.mono s'').unset.set rv')⟩) hs hs1
/-- one name, a test of which one knows little -/
theorem ep_lcSome {elt : Expr} {scope : Scope} {y : Str} {i : Nat} {tp : Pos} {ds : List PyData} (hA : ∀ i, At (X i) P w K mg base k) {N : List Str} {sc : Scope} (S : Sc X N sc) (src : EI X H0 ρ (.Name y tp) e ds) (f : PyData → PyData)
    (step : ∀ d, d ∈ ds → ET (blkF X scope) H0 ((wipeR ρ [i]).set i (some (.dat d))) c (fun _ => True) ∧ EV (blkF X scope) H0 ((wipeR ρ [i]).set i (some (.dat d))) elt (f d))
    (ok : blkC N sc scope [(y, i)] = true := by decide +kernel)
    (hi : ∀ i', (X i').N[i]? = some y := by intro _; rfl) (hx : ∀ i', Loc (blkF X scope i').env.scope y := by intro _; first | exact Or.inl rfl | exact Or.inr rfl) (hf : ∀ i', (blkF X scope i').fn y = true ∨ (blkF X scope i').env.scope.names.lookup y = some .local := by intro _; first | exact Or.inr rfl | exact Or.inl rfl)
    (hs : ∀ i x, foldedSetIterable e (X i).env x = pure x := by intro _ _; rfl) :
    EP X H0 ρ (.ListComp elt [⟨.Name y tp, e, [c], 0⟩] scope pos) (fun d => ∃ l, d = .list l ∧ l.Sublist (ds.map f)) := .mk fun σ H s r => by
  refine (dp_lc (own := [(y, i)]) (g := gName i) hA S.ndx (S.ok ok) (fun i' => pg_name (S.ndx i'.1) (hi i'.1) (hx i') (hf i')) (src σ H s r) (fun j acc => acc.Sublist ((ds.take j).map f)) (by simp) (fun j d acc hd pv => ?_) hs).mono fun d ⟨acc, e1, e2⟩ => ⟨acc, e1, by rwa [List.take_length] at e2⟩
  refine ⟨_, tg_name, fun H' σ2 s' ⟨v, rv, e2⟩ => ?_⟩
  subst e2
  have q := ((r.mono s').wipe [i]).set (i := i) rv
  obtain ⟨h1, h2⟩ := step d (List.mem_of_getElem? hd)
  have e3 : (ds.take (j + 1)).map f = (ds.take j).map f ++ [f d] := by rw [List.take_succ, hd, List.map_append] <;> rfl
  refine ⟨wipe_own, _, dts_one (h1 _ H' (s.trans s') q), fun _ => by rw [e3]; exact pv.trans (List.sublist_append_left _ _), fun _ => ⟨_, h2 _ H' (s.trans s') q, fun y' e1 => ?_⟩⟩
  subst e1
  rw [e3]
  exact pv.append (List.Sublist.refl _)

/-! #### statements -/
variable {D : Ends} {sts : List Stmt}
theorem ws_nil (h : ∀ σ H, Same H0 H → RpS H σ ρ → D.nx σ H) : WS X H0 ρ [] D := .mk fun σ H s r => wb_nil (h σ H s r)
theorem ws_ret {Φ : PyData → Prop} (h : EP X H0 ρ e Φ) (q : ∀ v H d, Same H0 H → Rp H v d → Φ d → D.rt v H) : WS X H0 ρ (.Return (some e) pos :: sts) D := .mk fun σ H s r => wb_ret (h σ H s r) fun v H' d s' rv f => q v H' d (s.trans s') rv f
theorem ws_set {i : Nat} {y : Str} {Φ : PyData → Prop} {pos' : Pos} (h : EP X H0 ρ e Φ) {N : List Str} {sc : Scope} (S : Sc X N sc) (q : ∀ d, Φ d → WS X H0 (ρ.set i (some (.dat d))) sts D) (hi : ∀ i', (X i').N[i]? = some y := by intro _; rfl) (hx : ∀ i', Loc (X i').env.scope y := by intro _; first | exact Or.inl rfl | exact Or.inr rfl)
    (hs : ∀ i', swapsWith e (some (.Name y pos')) pos.line (X i').env = pure false := by intro _; rfl) (hf : ∀ i', (X i').fn y = true ∨ (X i').env.scope.names.lookup y = some .local := by intro _; first | exact Or.inl rfl | exact Or.inr rfl) : WS X H0 ρ (.Assign [.Name y pos'] e pos :: sts) D := .mk fun σ H s r =>
  wb_set (h σ H s r) (fun v H' d s' rv f => q d f _ H' (s.trans s') ((r.mono s').set rv)) S.ndx hi hx hs hf
theorem ws_two {i j : Nat} {y z : Str} {Φ : PyData → PyData → Prop} {p1 p2 pt : Pos} {kt} (hA : ∀ i, At (X i) P w K mg base k) (h : EP X H0 ρ e (fun d => ∃ d1 d2, d = .tuple [d1, d2] ∧ Φ d1 d2)) {N : List Str} {sc : Scope} (S : Sc X N sc) (q : ∀ d d', Φ d d' → WS X H0 ((ρ.set i (some (.dat d))).set j (some (.dat d'))) sts D)
    (hi : ∀ i', (X i').N[i]? = some y := by intro _; rfl) (hj : ∀ i', (X i').N[j]? = some z := by intro _; rfl) (hx : ∀ i', Loc (X i').env.scope y := by intro _; first | exact Or.inl rfl | exact Or.inr rfl) (hy : ∀ i', Loc (X i').env.scope z := by intro _; first | exact Or.inl rfl | exact Or.inr rfl)
    (hf : ∀ i', (X i').fn y = true ∨ (X i').env.scope.names.lookup y = some .local := by intro _; first | exact Or.inl rfl | exact Or.inr rfl) (hf' : ∀ i', (X i').fn z = true ∨ (X i').env.scope.names.lookup z = some .local := by intro _; first | exact Or.inl rfl | exact Or.inr rfl)
    (hs : ∀ i', swapsWithSole [.Tuple [.Name y p1, .Name z p2] kt pt] e pos.line (X i').env = pure false := by intro _; rfl) (hw : ∀ i', swappedStores [.Tuple [.Name y p1, .Name z p2] kt pt] e (X i').env = pure none := by intro _; rfl) : WS X H0 ρ (.Assign [.Tuple [.Name y p1, .Name z p2] kt pt] e pos :: sts) D := .mk fun σ H s r =>
  wb_two hA (h σ H s r) S.ndx (fun v v' H' d d' s' r1 r2 f => q d d' f _ H' (s.trans s') (((r.mono s').set r1).set r2)) hi hj hx hy hf hf' hs hw
theorem ws_if {Φ : Bool → Prop} {as bs : List Stmt} (h : ET X H0 ρ c Φ) (q1 : Φ true → WS X H0 ρ as { D with nx := fun σ H => uB X sts D σ H }) (q2 : Φ false → WS X H0 ρ bs { D with nx := fun σ H => uB X sts D σ H }) : WS X H0 ρ (.If c as bs pos :: sts) D := .mk fun σ H s r =>
  wb_if (h σ H s r) (fun H' s' f => q1 f σ H' (s.trans s') (r.mono s')) fun H' s' f => q2 f σ H' (s.trans s') (r.mono s')
/-- an if without else whose branch leaves the block -/
theorem ws_ifr {b : Bool} {as : List Stmt} (h : EB X H0 ρ c b) (q1 : b = true → WS X H0 ρ as { D with nx := fun σ H => uB X sts D σ H }) (q2 : b = false → WS X H0 ρ sts D) : WS X H0 ρ (.If c as [] pos :: sts) D :=
  ws_if h (fun f => q1 f.symm) fun f => ws_nil fun σ H s r => q2 f.symm σ H s r
theorem ws_no {as : List Stmt} (h : EB X H0 ρ c false) (q : WS X H0 ρ sts D) : WS X H0 ρ (.If c as [] pos :: sts) D := ws_ifr h (fun f => by cases f) fun _ => q
theorem ws_expr {Φ : PyData → Prop} (h : EP X H0 ρ e Φ) (q : WS X H0 ρ sts D) (hs : ∀ i, swapsWith e none pos.line (X i).env = pure false := by intro _; rfl) : WS X H0 ρ (.Expr e pos :: sts) D := .mk fun σ H s r => wb_expr (h σ H s r) (fun H' s' => q σ H' (s.trans s') (r.mono s')) hs
/-- a def keeps its promise by a function of data -/
theorem Df.fnE {x : Str} {st : Stmt} {ps N : List Str} {F : List PyData → Option PyData} (D : Df K mg x st ps) (S : FnScope N ps (defScope st))
    (h : ∀ (f : Addr) (cdv : Value) (A : Around) (outer : List Env) (s : Shared) (H1 H0 : Hp) (Q : VK) (ds : List PyData) (d : PyData), (∀ i, At (bdF P w K mg base N x (defScope st) f cdv A outer s H1 i) P w K mg base k) → Sc (bdF P w K mg base N x (defScope st) f cdv A outer s H1) N (defScope st) → F ds = some d → ds.length = ps.length → (∀ v H' d', Same H0 H' → Rp H' v d' → d' = d → Q v H') →
      WS (bdF P w K mg base N x (defScope st) f cdv A outer s H1) H0 ((ds.map fun d => some (SD.dat d)) ++ List.replicate (N.length - ps.length) none) (defBody st) { nx := fun _ H' => Q .non H', rt := Q }) : Fn P w K mg base (k + 1) x ps (spE F ps.length) := by
  refine D.fn S (fun vs H Q E h => h.1) (fun vs H Q E h => h) fun f cdv A outer s H1 H vs Q hA hs => ?_
  obtain ⟨hl, ds, ra, ⟨d, hf⟩, q⟩ := hs
  have r := ra.start (N.length - vs.length)
  refine h f cdv A outer s H1 H Q ds d hA ⟨S.nd, fun _ => rfl, fun _ => rfl⟩ hf (by rw [← ra.length]; exact hl) (fun v H' d' s' rv e => q v H' d s' (e ▸ rv) hf) _ H (Same.refl H) ?_
  rw [← hl]
  exact r
end
end SW

set_option Elab.async false
set_option linter.all false
set_option maxRecDepth 100000
set_option maxHeartbeats 2000000
/-! Sw5: sorting. -/
namespace SW
open PySem L2
variable [Nm]
/-! ### sorting, plainly -/
section
variable {α : Type}
def ins (le : α → α → Bool) (x : α) : List α → List α
  | [] => [x]
  | y :: l => if le x y then x :: y :: l else y :: ins le x l
def isort (le : α → α → Bool) : List α → List α
  | [] => []
  | x :: l => ins le x (isort le l)
theorem ins_perm (le : α → α → Bool) (x : α) : ∀ l, (ins le x l).Perm (x :: l)
  | [] => List.Perm.refl _
  | y :: l => by
    unfold ins
    split
    · exact List.Perm.refl _
    · exact ((ins_perm le x l).cons y).trans (List.Perm.swap x y l)
theorem isort_perm (le : α → α → Bool) : ∀ l : List α, (isort le l).Perm l
  | [] => List.Perm.refl _
  | x :: l => (ins_perm le x _).trans ((isort_perm le l).cons x)
structure Ord (le : α → α → Bool) (S : α → Prop) : Prop where
  total : ∀ x y, S x → S y → le x y = true ∨ le y x = true
  trans : ∀ x y z, S x → S y → S z → le x y = true → le y z = true → le x z = true
  anti : ∀ x y, S x → S y → le x y = true → le y x = true → x = y
theorem ins_sorted {le : α → α → Bool} {S : α → Prop} (O : Ord le S) {x : α} (hx : S x) : ∀ {l : List α}, (∀ y ∈ l, S y) → l.Pairwise (fun a b => le a b = true) → (ins le x l).Pairwise (fun a b => le a b = true)
  | [], _, _ => by simp [ins]
  | y :: l, hs, h => by
    unfold ins
    obtain ⟨h1, h2⟩ := List.pairwise_cons.mp h
    have hy := hs y List.mem_cons_self
    split
    · rename_i c
      refine List.pairwise_cons.mpr ⟨fun z hz => ?_, h⟩
      rcases List.mem_cons.mp hz with e | hz
      · rw [e]; exact c
      · exact O.trans _ _ _ hx hy (hs z (List.mem_cons_of_mem _ hz)) c (h1 z hz)
    · rename_i c
      refine List.pairwise_cons.mpr ⟨fun z hz => ?_, ins_sorted O hx (fun z hz => hs z (List.mem_cons_of_mem _ hz)) h2⟩
      rcases List.mem_cons.mp ((ins_perm le x l).mem_iff.mp hz) with e | hz
      · rw [e]
        rcases O.total x y hx hy with q | q
        · exact absurd q c
        · exact q
      · exact h1 z hz
theorem isort_sorted {le : α → α → Bool} {S : α → Prop} (O : Ord le S) : ∀ {l : List α}, (∀ y ∈ l, S y) → (isort le l).Pairwise (fun a b => le a b = true)
  | [], _ => List.Pairwise.nil
  | x :: l, h => ins_sorted O (h x List.mem_cons_self) (fun y hy => h y (List.mem_cons_of_mem _ ((isort_perm le l).mem_iff.mp hy))) (isort_sorted O fun y hy => h y (List.mem_cons_of_mem _ hy))
theorem sorted_uniq {le : α → α → Bool} {S : α → Prop} (O : Ord le S) : ∀ {l m : List α}, (∀ y ∈ l, S y) → l.Perm m → l.Pairwise (fun a b => le a b = true) → m.Pairwise (fun a b => le a b = true) → l = m
  | [], m, _, p, _, _ => (List.Perm.eq_nil p.symm).symm
  | x :: l, [], _, p, _, _ => by cases List.Perm.eq_nil p
  | x :: l, y :: m, hs, p, h1, h2 => by
    obtain ⟨a1, a2⟩ := List.pairwise_cons.mp h1
    obtain ⟨b1, b2⟩ := List.pairwise_cons.mp h2
    have hx := hs x List.mem_cons_self
    have hy := hs y (p.mem_iff.mpr List.mem_cons_self)
    have e : x = y := by
      rcases List.mem_cons.mp (p.mem_iff.mp (List.mem_cons_self (a := x) (l := l))) with e | hm
      · exact e
      · rcases List.mem_cons.mp (p.mem_iff.mpr (List.mem_cons_self (a := y) (l := m))) with e | hl
        · exact e.symm
        · exact O.anti x y hx hy (a1 y hl) (b1 x hm)
    subst e
    rw [sorted_uniq O (fun y hy => hs y (List.mem_cons_of_mem _ hy)) (List.Perm.cons_inv p) a2 b2]
theorem isort_eq {le : α → α → Bool} {S : α → Prop} (O : Ord le S) {l m : List α} (hs : ∀ y ∈ l, S y) (p : m.Perm l) (h : m.Pairwise (fun a b => le a b = true)) : m = isort le l :=
  sorted_uniq O (fun y hy => hs y (p.mem_iff.mp hy)) (p.trans (isort_perm le l).symm) h (isort_sorted O hs)
/-- what is sorted already stays -/
theorem isort_id {le : α → α → Bool} {S : α → Prop} (O : Ord le S) {l : List α} (hs : ∀ y ∈ l, S y) (h : l.Pairwise (fun a b => le a b = true)) : isort le l = l := (isort_eq O hs (List.Perm.refl l) h).symm
end
def leI (a b : Int) : Bool := decide (a ≤ b)
theorem ordI : Ord leI (fun _ => True) := ⟨fun x y _ _ => by unfold leI; rw [decide_eq_true_eq, decide_eq_true_eq]; omega, fun x y z _ _ _ => by unfold leI; simp only [decide_eq_true_eq]; omega, fun x y _ _ => by unfold leI; simp only [decide_eq_true_eq]; omega⟩
/-- pairs of ints -/
def leP (a b : Int × Int) : Bool := decide (a.1 < b.1) || (decide (a.1 = b.1) && decide (a.2 ≤ b.2))
theorem ordP : Ord leP (fun _ => True) := ⟨fun x y _ _ => by unfold leP; simp only [Bool.or_eq_true, Bool.and_eq_true, decide_eq_true_eq]; omega, fun x y z _ _ _ => by unfold leP; simp only [Bool.or_eq_true, Bool.and_eq_true, decide_eq_true_eq]; omega, fun x y _ _ => by
  unfold leP; simp only [Bool.or_eq_true, Bool.and_eq_true, decide_eq_true_eq]; intro h1 h2; exact Prod.ext (by omega) (by omega)⟩
def pairI (p : Int × Int) : PyData := .tuple [.int p.1, .int p.2]
section
variable {I : Type} {X : I → Cx} {H0 : Hp} {ρ : Env1} {e : Expr} {pos : Pos}
variable {P : Program} {w : World} {K : PySem.W.Frag} {mg : Str → Option Value} {base : Heap} {k : Nat} {p : Pos}
theorem ev_sortedI {ns : List Int} (hA : ∀ i, At (X i) P w K mg base k) (hm : mg "sorted" = none) (h : EV X H0 ρ e (.list (ns.map .int))) (hg : ∀ i, Gl (X i) "sorted" := by intro _; rfl) (ns' : ∀ i, starEach (e :: []) (X i).env = (false, eval e (X i).env) :: starEach [] (X i).env := by intro _; rfl) :
    EV X H0 ρ (.Call (.Name "sorted" p) [e] [] pos) (.list ((isort leI ns).map .int)) := .mk fun σ H s r =>
  dp_callB hA (fun i => (hA i).K ▸ cr_sortedI (X := X i)) hm (by decide +kernel) (da1 (h σ H s r) ns') (fun _ ⟨d, e1, e2⟩ => by
    rw [e1, e2]
    intro vs H Q r q
    obtain ⟨v, rfl, rv⟩ := r.one
    cases rv with
    | lst hh t =>
      rw [t.ints_inv] at hh
      refine ⟨_, ns, rfl, SqL.of hh, fun ns2 p hp hs hn => ?_⟩
      have e3 : ns2 = isort leI ns := isort_eq ordI (fun _ _ => trivial) hp (hs.imp fun h => by unfold leI; exact decide_eq_true h)
      subst e3
      exact q _ _ _ (same_upd hn) (.lst upd_same (RpA.ints _)) rfl) hg (by decide) (by decide) ns' (fun _ => rfl)
theorem RpA.prs {H : Hp} : ∀ {vs : List V} {ns : List (Int × Int)}, RpA H vs (ns.map pairI) → ∃ as : List Addr, vs = as.map V.ref ∧ ∀ (i : Nat) (a : Addr), as[i]? = some a → ∃ n : Int × Int, ns[i]? = some n ∧ H a = some (.tup [.int n.1, .int n.2])
  | _, [], .nil => ⟨[], rfl, fun i a h => by simp at h⟩
  | _, n :: ns, .cons (.tup h t) r => by
    obtain ⟨as, e1, e2⟩ := RpA.prs r
    obtain ⟨x, y, rfl, rx, ry⟩ := t.two
    cases rx; cases ry
    refine ⟨_ :: as, by rw [e1]; rfl, fun i a h' => ?_⟩
    cases i with
    | zero => simp at h'; subst h'; exact ⟨n, rfl, h⟩
    | succ i => obtain ⟨m, q1, q2⟩ := e2 i a (by simpa using h'); exact ⟨m, by simpa using q1, q2⟩
open Classical in
theorem ev_sortedP {ns : List (Int × Int)} (hA : ∀ i, At (X i) P w K mg base k) (hm : mg "sorted" = none) (h : EV X H0 ρ e (.list (ns.map pairI))) (hg : ∀ i, Gl (X i) "sorted" := by intro _; rfl) (ns' : ∀ i, starEach (e :: []) (X i).env = (false, eval e (X i).env) :: starEach [] (X i).env := by intro _; rfl) :
    EV X H0 ρ (.Call (.Name "sorted" p) [e] [] pos) (.list ((isort leP ns).map pairI)) := .mk fun σ H s r =>
  dp_callB hA (fun i => (hA i).K ▸ cr_sortedPO (X := X i)) hm (by decide +kernel) (da1 (h σ H s r) ns') (fun _ ⟨d, e1, e2⟩ => by
    rw [e1, e2]
    intro vs H Q r q
    obtain ⟨v, rfl, rv⟩ := r.one
    cases rv with
    | @lst a vs _ hh t =>
      -- what an item is: read off the heap
      let k : V → Int × Int := fun v => match v with
        | .ref a => match H a with
          | some (.tup [.int i, .int j]) => (i, j)
          | _ => (0, 0)
        | _ => (0, 0)
      obtain ⟨as, rfl, hget⟩ := t.prs
      have hk : (as.map V.ref).map k = ns := by
        refine List.ext_getElem? fun i => ?_
        rw [List.getElem?_map, List.getElem?_map]
        cases e : as[i]? with
        | none =>
          have l1 : as.length ≤ i := List.getElem?_eq_none_iff.mp e
          have l2 := t.length
          rw [List.length_map, List.length_map] at l2
          rw [List.getElem?_eq_none (by omega)] <;> rfl
        | some a =>
          obtain ⟨n, q1, q2⟩ := hget i a e
          rw [q1]
          show some (k (.ref a)) = some n
          have : k (.ref a) = (n.1, n.2) := by show (match H a with | some (.tup [.int i, .int j]) => (i, j) | _ => (0, 0)) = _; rw [q2]
          rw [this]
      have hit : ∀ x ∈ as.map V.ref, ∃ t, x = V.ref t ∧ H t = some (.tup [.int (k x).1, .int (k x).2]) := fun x hx => by
        obtain ⟨a, ha, rfl⟩ := List.mem_map.mp hx
        obtain ⟨i, hi, e⟩ := List.getElem_of_mem ha
        obtain ⟨n, q1, q2⟩ := hget i a (by rw [List.getElem?_eq_getElem hi, e])
        refine ⟨a, rfl, ?_⟩
        have : k (.ref a) = (n.1, n.2) := by show (match H a with | some (.tup [.int i, .int j]) => (i, j) | _ => (0, 0)) = _; rw [q2]
        rw [this, q2]
      refine ⟨a, as.map V.ref, k, rfl, SqL.of hh, hit, fun ys p hs hb hn => ?_⟩
      have hp := hb.perm
      have e3 : ys.map k = isort leP ns := by
        refine isort_eq ordP (fun _ _ => trivial) (by rw [← hk]; exact hp.map k) ?_
        refine List.pairwise_map.mpr (hs.imp fun {x y} h => ?_)
        have h' : SrtO.lexB (k y) (k x) = false := h
        have h2 := SrtO.lexB_no.mp h'
        unfold leP
        simp only [Bool.or_eq_true, Bool.and_eq_true, decide_eq_true_eq]
        omega
      refine q _ _ _ (same_upd hn) (.lst upd_same ?_) rfl
      rw [← e3, List.map_map]
      have hys : ∀ x ∈ ys, ∃ t, x = V.ref t ∧ H t = some (.tup [.int (k x).1, .int (k x).2]) := fun x hx => hit x (hp.mem_iff.mp hx)
      have go : ∀ l : List V, (∀ x ∈ l, ∃ t, x = V.ref t ∧ H t = some (.tup [.int (k x).1, .int (k x).2])) → RpA (upd H p (.lst ys)) l (l.map (pairI ∘ k)) := by
        intro l
        induction l with
        | nil => intro _; exact .nil
        | cons x l ih =>
          intro hl
          obtain ⟨t, e, ht⟩ := hl x List.mem_cons_self
          refine .cons ?_ (ih fun y hy => hl y (List.mem_cons_of_mem _ hy))
          rw [e] at ht ⊢
          exact .tup (same_upd hn _ _ ht) (.cons (.int _) (.cons (.int _) .nil))
      exact go ys hys) hg (by decide) (by decide) ns' (fun _ => rfl)
end
end SW

set_option Elab.async false
set_option linter.all false
set_option maxRecDepth 100000
set_option maxHeartbeats 2000000
/-! SwRow: the row from which a law draws: a list that is hidden but where it is asked. -/
namespace SW
open PySem L2
variable [Nm]
def rowV (a : Addr) (i s c : Int) : List V := [.ref a, .int i, .int s, .int c]
def RowB (i s c : Int) : Prop := 0 ≤ i ∧ i ≤ 1000000 ∧ 0 ≤ s ∧ s ≤ 2147483647 ∧ 0 ≤ c
def RowH (r a : Addr) : Heap → Prop := fun h => ∃ i s c, (0 ≤ i ∧ 0 ≤ s ∧ s ≤ 2147483647 ∧ 0 ≤ c) ∧ Lph r (rowV a i s c) h
abbrev RowO (r a : Addr) : HO := .ext (RowH r a)
section
variable {I : Type} {X : I → Cx} {σ : St} {H : Hp}
theorem inv_open {X : Cx} {pins : List (Addr × Obj)} {s : Shared} {r a : Addr} (J : Inv X pins σ H s) (h : H r = some (RowO r a)) : ∃ i s' c, (0 ≤ i ∧ 0 ≤ s' ∧ s' ≤ 2147483647 ∧ 0 ≤ c) ∧ Inv X pins σ (upd H r (.lst (rowV a i s' c))) s := by
  obtain ⟨⟨i, s', c, b, hz, its, n, rv, ho⟩, _⟩ := J.hok r _ h
  exact ⟨i, s', c, b, J.write (e := r) (h' := s.heap) (t' := s.toks) (by rw [h]; trivial) (.inl rfl) (fun b u _ q => q) ⟨_, ho⟩ ⟨hz, its, n, rv, ho⟩⟩
theorem inv_close {X : Cx} {pins : List (Addr × Obj)} {s : Shared} {r a : Addr} {i s' c : Int} (J : Inv X pins σ H s) (h : H r = some (.lst (rowV a i s' c))) (b : 0 ≤ i ∧ 0 ≤ s' ∧ s' ≤ 2147483647 ∧ 0 ≤ c) : Inv X pins σ (upd H r (RowO r a)) s := by
  obtain ⟨hz, its, n, rv, ho⟩ := J.hok r _ h
  refine J.write (e := r) (h' := s.heap) (t' := s.toks) (by rw [h]; trivial) (.inl rfl) (fun b u _ q => q) ⟨_, ho⟩ ⟨⟨i, s', c, b, hz, its, n, rv, ho⟩, ⟨_, ho⟩, fun h1 h2 p k => ?_⟩
  obtain ⟨i, s', c, b, z, its, n, x, d⟩ := p
  exact ⟨i, s', c, b, z, its, n, x, k _ d⟩
/-- what is wanted behind, the row being shut again -/
def shutE (r a : Addr) (D : Ends) : Ends where
  nx := fun σ H => ∃ i s c, H r = some (.lst (rowV a i s c)) ∧ (0 ≤ i ∧ 0 ≤ s ∧ s ≤ 2147483647 ∧ 0 ≤ c) ∧ D.nx σ (upd H r (RowO r a))
  rt := fun v H => ∃ i s c, H r = some (.lst (rowV a i s c)) ∧ (0 ≤ i ∧ 0 ≤ s ∧ s ≤ 2147483647 ∧ 0 ≤ c) ∧ D.rt v (upd H r (RowO r a))
theorem ub_open {sts : List Stmt} {D : Ends} {r a : Addr} (h : H r = some (RowO r a)) (q : ∀ i s c, (0 ≤ i ∧ 0 ≤ s ∧ s ≤ 2147483647 ∧ 0 ≤ c) → uB X sts (shutE r a D) σ (upd H r (.lst (rowV a i s c)))) : uB X sts D σ H := by
  refine ⟨fun D σ H => H r = some (RowO r a) ∧ ∀ i s c, (0 ≤ i ∧ 0 ≤ s ∧ s ≤ 2147483647 ∧ 0 ≤ c) → uB X sts (shutE r a D) σ (upd H r (.lst (rowV a i s c))), fun j => ⟨fun pins s σ H D J hh => ?_⟩, ⟨h, q⟩⟩
  obtain ⟨h, q⟩ := hh
  obtain ⟨i, s', c, b, J'⟩ := inv_open J h
  refine thn ((pb_u j).run pins s σ _ _ J' (q i s' c b)) fun f s1 z => ?_
  cases f with
  | next => obtain ⟨σ', H', I', i, s', c, e, b, z⟩ := z; exact ⟨σ', _, inv_close I' e b, z⟩
  | brk => obtain ⟨σ', H', I', z⟩ := z; exact z.elim
  | cont => obtain ⟨σ', H', I', z⟩ := z; exact z.elim
  | ret u => obtain ⟨v, σ', H', I', rv, i, s', c, e, b, z⟩ := z; exact ⟨v, σ', _, inv_close I' e b, rv, z⟩
end
theorem Same.seq {K : PySem.W.Frag} {H H' : Hp} {a : Addr} {xs : List V} (e : Same H H') (h : SqL K H a xs) : SqL K H' a xs := by
  rcases h with (h | ⟨o, h⟩) | h
  · exact .inl (.inl (e _ _ h))
  · exact .inl (.inr ⟨o, e _ _ h⟩)
  · exact .inr h
/-- the script stands at a -/
def Scr (K : PySem.W.Frag) (H : Hp) (a : Addr) : Prop := ∃ ns : List Int, SqL K H a (ns.map V.int) ∧ ns.length ≤ 63
theorem Scr.mono {K : PySem.W.Frag} {H H' : Hp} {a : Addr} (s : Same H H') (h : Scr K H a) : Scr K H' a := let ⟨ns, q, l⟩ := h; ⟨ns, s.seq q, l⟩
/-- the row stands at r -/
structure RowAt (K : PySem.W.Frag) (H : Hp) (r : Addr) : Prop where
  at_ : ∃ a, H r = some (RowO r a) ∧ Scr K H a
theorem RowAt.mono {K : PySem.W.Frag} {H H' : Hp} {r : Addr} (s : Same H H') (h : RowAt K H r) : RowAt K H' r := by
  obtain ⟨a, q, z⟩ := h.at_
  exact ⟨a, s _ _ q, z.mono s⟩
/-- _law_taken(row, many): some number from 0 to one less than many -/
def spTk (K : PySem.W.Frag) : Sp := fun vs H Q _ => ∃ (r : Addr) (m : Int), vs = [.ref r, .int m] ∧ (1 ≤ m ∧ m ≤ 1000) ∧ RowAt K H r ∧ ∀ k H', 0 ≤ k → k < m → Same H H' → Q (.int k) H'
theorem scr_upd {K : PySem.W.Frag} {H : Hp} {a r : Addr} {o : HO} {φ : Heap → Prop} (hr : H r = some (.ext φ)) {xs : List V} (h : SqL K H a xs) : SqL K (upd H r o) a xs := by
  rcases h with (h | ⟨ob, h⟩) | h
  · exact .inl (.inl (by rw [upd_ne (ne_of h hr (by intro z; cases z))]; exact h))
  · exact .inl (.inr ⟨ob, by rw [upd_ne (ne_of h hr (by intro z; cases z))]; exact h⟩)
  · exact .inr h
theorem same_shut {H : Hp} {r a : Addr} {o1 : HO} (h : H r = some (RowO r a)) : Same H (upd (upd H r o1) r (RowO r a)) := Same.of fun b o q => by
  rw [upd_upd]
  by_cases e : b = r
  · subst e; rw [upd_same, ← h]; exact q
  · rw [upd_ne e]; exact q
theorem same_shut2 {H : Hp} {r a : Addr} {o1 o2 : HO} (h : H r = some (RowO r a)) : Same H (upd (upd (upd H r o1) r o2) r (RowO r a)) := by rw [upd_upd (o := o1)]; exact same_shut h
theorem same_shut3 {H : Hp} {r a : Addr} {o1 o2 o3 : HO} (h : H r = some (RowO r a)) : Same H (upd (upd (upd (upd H r o1) r o2) r o3) r (RowO r a)) := by rw [upd_upd (o := o1)]; exact same_shut2 h
theorem same_shut4 {H : Hp} {r a : Addr} {o1 o2 o3 o4 : HO} (h : H r = some (RowO r a)) : Same H (upd (upd (upd (upd (upd H r o1) r o2) r o3) r o4) r (RowO r a)) := by rw [upd_upd (o := o1)]; exact same_shut3 h
end SW

set_option Elab.async false
set_option linter.all false
set_option maxRecDepth 100000
set_option maxHeartbeats 2000000
/-! Sw6: rows handed on, loops, further operators. -/
namespace SW
open PySem L2
variable [Nm]
/-- a def's promise whose first argument is the row -/
def spRow (K : PySem.W.Frag) (pre : List PyData → Prop) (post : List PyData → PyData → Prop) (n : Nat) : Sp := fun vs H Q _ => ∃ (r : Addr) (vs' : List V) (ds : List PyData), vs = .ref r :: vs' ∧ vs'.length = n ∧ RowAt K H r ∧ RpA H vs' ds ∧ pre ds ∧ ∀ v H' d, Same H H' → Rp H' v d → post ds d → Q v H'
abbrev preTk : List PyData → Prop := fun ds => ∃ m : Int, ds = [.int m] ∧ 1 ≤ m ∧ m ≤ 1000
abbrev postTk : List PyData → PyData → Prop := fun ds d => ∃ m k : Int, ds = [.int m] ∧ d = .int k ∧ 0 ≤ k ∧ k < m
theorem Fn.taken {P : Program} {w : World} {K : PySem.W.Frag} {mg : Str → Option Value} {base : Heap} {k : Nat} {x : Str} {ps : List Str} (h : Fn P w K mg base k x ps (spTk K)) : Fn P w K mg base k x ps (spRow K preTk postTk 1) := by
  obtain ⟨f, fd, F, r⟩ := h
  refine ⟨f, fd, F.imp fun vs H Q E h => ?_, r⟩
  obtain ⟨r, vs', ds, rfl, hl, hr, ra, ⟨m, rfl, m1, m2⟩, q⟩ := h
  obtain ⟨v, rfl, rv⟩ := ra.one
  cases rv
  exact ⟨r, m, rfl, ⟨m1, m2⟩, hr, fun k H' k1 k2 s => q _ _ _ s (.int k) ⟨m, k, rfl, rfl, k1, k2⟩⟩
section
variable {I : Type} {X : I → Cx} {H0 : Hp} {ρ : Env1} {tg e a b c : Expr} {es rest : List Expr} {pos : Pos}
variable {P : Program} {w : World} {K : PySem.W.Frag} {mg : Str → Option Value} {base : Heap} {k : Nat} {x : Str} {p : Pos} {ps : List Str}
theorem ep_row {pre : List PyData → Prop} {post : List PyData → PyData → Prop} {n : Nat} {Ψ : List PyData → Prop} {Φ : PyData → Prop} {r : Addr} {j : Nat} {e0 : Expr} (hA : ∀ i, At (X i) P w K mg base k) (hf : Fn P w K mg base k x ps (spRow K pre post n)) (hr : RowAt K H0 r) (hv : ∀ i, PE (X i) e0 (tVar j)) (hj : ρ[j]? = some (some (.raw (.ref r)))) (ha : EA X H0 ρ es Ψ)
    (hp : ∀ ds, Ψ ds → ds.length = n ∧ pre ds ∧ ∀ d, post ds d → Φ d) (hg : ∀ i, Gl (X i) x := by intro _; rfl)
    (hdb : (x == ("__debug__" : Str)) = false := by decide) (he : ∀ i, starEach (e0 :: es) (X i).env = (false, eval e0 (X i).env) :: starEach es (X i).env := by intro _; rfl) (hpl : ∀ i, (backTo pos (starEach es (X i).env)).any (·.1) = false := by intro _; rfl) :
    EP X H0 ρ (.Call (.Name x p) (e0 :: es) [] pos) Φ := .mk fun σ H s rs H1 Q s1 q =>
  ue_call (E := E0) hA hf (t := tCons (tVar j) (uA X es)) (fun i => pa_cons (hv i) (pa_u i) (he i)) ⟨_, rs.getRaw hj, ha σ H s rs H1 _ s1 fun vs H2 ds s2 ra f => by
    obtain ⟨h1, h2, h3⟩ := hp ds f
    exact ⟨r, vs, ds, rfl, by rw [ra.length, h1], hr.mono (s.trans (s1.trans s2)), ra, h2, fun v H' d s3 r3 f3 => q v H' d (s2.trans s3) r3 (h3 d f3)⟩⟩ hg hdb he hpl
/-- _law_taken(row, e) -/
theorem ep_take {m : Int} {r : Addr} {j : Nat} {e0 : Expr} (hA : ∀ i, At (X i) P w K mg base k) (hf : Fn P w K mg base k x ps (spRow K preTk postTk 1)) (hr : RowAt K H0 r) (hv : ∀ i, PE (X i) e0 (tVar j)) (hj : ρ[j]? = some (some (.raw (.ref r)))) (ha : EV X H0 ρ e (.int m)) (hm : 1 ≤ m ∧ m ≤ 1000)
    (hg : ∀ i, Gl (X i) x := by intro _; rfl) (hdb : (x == ("__debug__" : Str)) = false := by decide) (he : ∀ i, starEach (e0 :: [e]) (X i).env = (false, eval e0 (X i).env) :: starEach [e] (X i).env := by intro _; rfl) (he' : ∀ i, starEach [e] (X i).env = (false, eval e (X i).env) :: starEach [] (X i).env := by intro _; rfl) (hpl : ∀ i, (backTo pos (starEach [e] (X i).env)).any (·.1) = false := by intro _; rfl) :
    EP X H0 ρ (.Call (.Name x p) [e0, e] [] pos) (fun d => ∃ n : Int, d = .int n ∧ 0 ≤ n ∧ n < m) :=
  ep_row hA hf hr hv hj (el1 ha he') (fun ds e1 => by
    subst e1
    exact ⟨rfl, ⟨m, rfl, hm⟩, fun d ⟨m', n, e2, e3, h1, h2⟩ => ⟨n, e3, h1, by injection e2 with e2; injection e2 with e2; rw [e2]; exact h2⟩⟩) hg hdb he hpl
/-- an operator whose values one knows little of -/
theorem ep_op2 {op : Operator} {r : R2} {Φ Ψ : PyData → Prop} {Θ : PyData → Prop} (ho : ∀ i, OpR (X i) (binaryOp op) r) (ha : EP X H0 ρ a Φ) (hb : EP X H0 ρ b Ψ) (h : ∀ d1 d2, Φ d1 → Ψ d2 → ∃ d, OpD r d1 d2 d ∧ Θ d) : EP X H0 ρ (.BinOp a op b pos) Θ := .mk fun σ H s rs H1 Q s1 k =>
  ⟨_, fun i => pe_op (ho i) (pe_u i) (pe_u i), ha σ H s rs H1 _ s1 fun v H2 x s2 r2 e2 => hb σ H s rs H2 _ (s1.trans s2) fun w' H3 y s3 r3 e3 => by
    obtain ⟨d, hd, t⟩ := h x y e2 e3
    exact hd v w' H3 Q (r2.mono s3) r3 fun u H4 s4 r4 => k u H4 d (s2.trans (s3.trans s4)) r4 t⟩
theorem ep_add {Φ Ψ : Int → Prop} (ha : EP X H0 ρ a (fun d => ∃ n : Int, d = .int n ∧ Φ n)) (hb : EP X H0 ρ b (fun d => ∃ n : Int, d = .int n ∧ Ψ n)) : EP X H0 ρ (.BinOp a .Add b pos) (fun d => ∃ n m : Int, d = .int (n + m) ∧ Φ n ∧ Ψ m) :=
  ep_op2 (fun _ => op_add) ha hb fun d1 d2 ⟨n, e1, h1⟩ ⟨m, e2, h2⟩ => ⟨.int (n + m), by subst e1 e2; exact od_I0 fun _ => .int _, n, m, rfl, h1, h2⟩
theorem EV.int {i : Int} (h : EV X H0 ρ a (.int i)) : EP X H0 ρ a (fun d => ∃ n : Int, d = .int n ∧ n = i) := h.mono fun d e => ⟨i, e, rfl⟩
/-- a test of an int of which one knows little -/
theorem et_cmp {op : CmpOp} {r : R2} {Φ Ψ : PyData → Prop} {Θ : Bool → Prop} (ho : ∀ i, OpR (X i) (compareOp op) r) (ha : EP X H0 ρ a Φ) (hb : EP X H0 ρ b Ψ) (h : ∀ d1 d2, Φ d1 → Ψ d2 → ∃ c, OpD r d1 d2 (.bool c) ∧ Θ c) (hm : behindInMarks op b = false) : ET X H0 ρ (.Compare a [op] [b] pos) Θ := .mk fun σ H s rs H1 Q s1 k =>
  ⟨_, fun i => pt_cmpR (ho i) (pe_u i) (pe_u i) hm, ha σ H s rs H1 _ s1 fun v H2 x s2 r2 e2 => hb σ H s rs H2 _ (s1.trans s2) fun w' H3 y s3 r3 e3 => by
    obtain ⟨c, hd, t⟩ := h x y e2 e3
    exact hd v w' H3 _ (r2.mono s3) r3 fun u H4 s4 r4 => by cases r4; exact ⟨c, rfl, k c H4 (s2.trans (s3.trans s4)) t⟩⟩
theorem od_eqI {i j : Int} : OpD rEq (.int i) (.int j) (.bool (decide (i = j))) := fun v w' H Q r1 r2 q => by cases r1; cases r2; exact ⟨rfl, q _ H (Same.refl _) (by rw [show decide (V.int i = V.int j) = decide (i = j) by simp]; exact .bl _)⟩
theorem et_eqAny {Φ Ψ : Int → Prop} (ha : EP X H0 ρ a (fun d => ∃ n : Int, d = .int n ∧ Φ n)) (hb : EP X H0 ρ b (fun d => ∃ n : Int, d = .int n ∧ Ψ n)) : ET X H0 ρ (.Compare a [.Eq] [b] pos) (fun _ => True) :=
  et_cmp (fun _ => op_eq) ha hb (fun d1 d2 ⟨n, e1, _⟩ ⟨m, e2, _⟩ => ⟨decide (n = m), by subst e1 e2; exact od_eqI, trivial⟩) (nomark _)
theorem et_gtAny {Φ Ψ : Int → Prop} (ha : EP X H0 ρ a (fun d => ∃ n : Int, d = .int n ∧ Φ n)) (hb : EP X H0 ρ b (fun d => ∃ n : Int, d = .int n ∧ Ψ n)) : ET X H0 ρ (.Compare a [.Gt] [b] pos) (fun _ => True) :=
  et_cmp (fun _ => op_gt) ha hb (fun d1 d2 ⟨n, e1, _⟩ ⟨m, e2, _⟩ => ⟨decide (m < n), by subst e1 e2; exact od_I0 fun _ => .bl _, trivial⟩) (nomark _)
/-- an item at a place of which one knows little -/
theorem ep_ixL {ds : List PyData} (hA : ∀ i, At (X i) P w K mg base k) (ha : EV X H0 ρ a (.list ds)) (hb : EP X H0 ρ b (fun d => ∃ n : Int, d = .int n ∧ 0 ≤ n ∧ n < ds.length)) (hp : PlainIx b := by exact fun _ _ => rfl) : EP X H0 ρ (.Subscript a b pos) (fun d => d ∈ ds) := .mk fun σ H s rs H1 Q s1 q =>
  ⟨_, fun j => pe_ix ((hA j).K ▸ ix_list) (pe_u j) (pe_u j) hp, ha σ H s rs H1 _ s1 fun v H2 x s2 r2 e2 => hb σ H s rs H2 _ (s1.trans s2) fun w' H3 y s3 r3 e3 => by
    subst e2
    obtain ⟨n, rfl, n0, n1⟩ := e3
    cases r3
    cases r2 with
    | lst hh t =>
      have hlt : n.toNat < ds.length := by omega
      obtain ⟨u, h1, h2⟩ := t.get' (List.getElem?_eq_getElem hlt)
      refine ⟨_, _, n, u, rfl, rfl, SqL.of (s3 _ _ hh), ?_, q u H3 _ (s2.trans s3) (h2.mono s3) (List.getElem_mem hlt)⟩
      have e : n = ((n.toNat : Nat) : Int) := by omega
      rw [e]
      exact atI_nat h1⟩
/-- xs + ys, lists -/
theorem ev_cat {xs ys : List PyData} (ha : EV X H0 ρ a (.list xs)) (hb : EV X H0 ρ b (.list ys)) (hz : xs.length + ys.length ≤ sizeLine) : EV X H0 ρ (.BinOp a .Add b pos) (.list (xs ++ ys)) := .mk fun σ H s r =>
  de_op2 (fun _ => op_cat) (fun v w' H Q r1 r2 q => by
    cases r1 with
    | lst h1 t1 => cases r2 with
      | lst h2 t2 => exact ⟨_, _, _, _, rfl, rfl, h1, h2, by rw [t1.length, t2.length]; exact hz, fun p hp => q _ _ (same_upd hp) (.lst upd_same ((t1.append t2).mono (same_upd hp)))⟩) (ha σ H s r) (hb σ H s r)
theorem ep_cat {Φ Ψ : List PyData → Prop} (ha : EP X H0 ρ a (fun d => ∃ xs, d = .list xs ∧ Φ xs)) (hb : EP X H0 ρ b (fun d => ∃ xs, d = .list xs ∧ Ψ xs)) (hz : ∀ xs ys, Φ xs → Ψ ys → xs.length + ys.length ≤ sizeLine) : EP X H0 ρ (.BinOp a .Add b pos) (fun d => ∃ xs ys, d = .list (xs ++ ys) ∧ Φ xs ∧ Ψ ys) :=
  ep_op2 (fun _ => op_cat) ha hb fun d1 d2 ⟨xs, e1, h1⟩ ⟨ys, e2, h2⟩ => ⟨.list (xs ++ ys), by
    subst e1 e2
    intro v w' H Q r1 r2 q
    cases r1 with
    | lst g1 t1 => cases r2 with
      | lst g2 t2 => exact ⟨_, _, _, _, rfl, rfl, g1, g2, by rw [t1.length, t2.length]; exact hz _ _ h1 h2, fun p hp => q _ _ (same_upd hp) (.lst upd_same ((t1.append t2).mono (same_upd hp)))⟩, xs, ys, rfl, h1, h2⟩
/-- i in xs, ints -/
theorem in_ints (i : Int) (ns : List Int) : inV (.int i) (ns.map V.int) = decide (i ∈ ns) := by
  unfold inV
  induction ns with
  | nil => rfl
  | cons n ns ih =>
    rw [List.map_cons, List.any_cons, ih]
    have e : eqV (.int n) (.int i) = decide (n = i) := by
      show (n == i) = _
      rw [Bool.beq_eq_decide_eq]
    rw [e]
    by_cases h : n = i
    · subst h; simp
    · have h' : ¬ i = n := fun z => h z.symm
      simp [h, h']
theorem flat_ints (ns : List Int) : (ns.map V.int).all flatV = true := by rw [List.all_map]; exact List.all_eq_true.mpr fun _ _ => rfl
theorem od_inI {K : PySem.W.Frag} {i : Int} {ns : List Int} : OpD (rIn K false) (.int i) (.list (ns.map .int)) (.bool (decide (i ∈ ns))) := fun v w' H Q r1 r2 q => by
  cases r1
  cases r2 with
  | lst h t =>
    rw [t.ints_inv] at h
    exact ⟨_, _, rfl, .inl (SqL.of h), rfl, flat_ints ns, q _ H (Same.refl _) (by rw [in_ints]; exact .bl _)⟩
theorem od_inT {K : PySem.W.Frag} {i : Int} {ns : List Int} : OpD (rIn K false) (.int i) (.tuple (ns.map .int)) (.bool (decide (i ∈ ns))) := fun v w' H Q r1 r2 q => by
  cases r1
  cases r2 with
  | tup h t =>
    rw [t.ints_inv] at h
    exact ⟨_, _, rfl, .inr (SqT.of h), rfl, flat_ints ns, q _ H (Same.refl _) (by rw [in_ints]; exact .bl _)⟩
theorem od_ninI {K : PySem.W.Frag} {i : Int} {ns : List Int} : OpD (rIn K true) (.int i) (.list (ns.map .int)) (.bool (!decide (i ∈ ns))) := fun v w' H Q r1 r2 q => by
  cases r1
  cases r2 with
  | lst h t =>
    rw [t.ints_inv] at h
    exact ⟨_, _, rfl, .inl (SqL.of h), rfl, flat_ints ns, q _ H (Same.refl _) (by rw [in_ints]; exact .bl _)⟩
theorem od_ninT {K : PySem.W.Frag} {i : Int} {ns : List Int} : OpD (rIn K true) (.int i) (.tuple (ns.map .int)) (.bool (!decide (i ∈ ns))) := fun v w' H Q r1 r2 q => by
  cases r1
  cases r2 with
  | tup h t =>
    rw [t.ints_inv] at h
    exact ⟨_, _, rfl, .inr (SqT.of h), rfl, flat_ints ns, q _ H (Same.refl _) (by rw [in_ints]; exact .bl _)⟩
theorem eb_inI {i : Int} {ns : List Int} (hA : ∀ i, At (X i) P w K mg base k) (ha : EV X H0 ρ a (.int i)) (hb : EV X H0 ρ b (.list (ns.map .int))) (hm : behindInMarks .In b = false := by rfl) : EB X H0 ρ (.Compare a [.In] [b] pos) (decide (i ∈ ns)) := .mk fun σ H s r => db_cmp (fun i => (hA i).K ▸ op_in_seq) od_inI (ha σ H s r) (hb σ H s r) hm
theorem eb_inT {i : Int} {ns : List Int} (hA : ∀ i, At (X i) P w K mg base k) (ha : EV X H0 ρ a (.int i)) (hb : EV X H0 ρ b (.tuple (ns.map .int))) (hm : behindInMarks .In b = false := by rfl) : EB X H0 ρ (.Compare a [.In] [b] pos) (decide (i ∈ ns)) := .mk fun σ H s r => db_cmp (fun i => (hA i).K ▸ op_in_seq) od_inT (ha σ H s r) (hb σ H s r) hm
theorem eb_ninT {i : Int} {ns : List Int} (hA : ∀ i, At (X i) P w K mg base k) (ha : EV X H0 ρ a (.int i)) (hb : EV X H0 ρ b (.tuple (ns.map .int))) (hm : behindInMarks .NotIn b = false := by rfl) : EB X H0 ρ (.Compare a [.NotIn] [b] pos) (!decide (i ∈ ns)) := .mk fun σ H s r => db_cmp (fun i => (hA i).K ▸ op_notIn_seq) od_ninT (ha σ H s r) (hb σ H s r) hm
theorem ev_inT {i : Int} {ns : List Int} (hA : ∀ i, At (X i) P w K mg base k) (ha : EV X H0 ρ a (.int i)) (hb : EV X H0 ρ b (.tuple (ns.map .int))) (hm : behindInMarks .In b = false := by rfl) : EV X H0 ρ (.Compare a [.In] [b] pos) (.bool (decide (i ∈ ns))) := .mk fun σ H s r => de_cmp (fun i => (hA i).K ▸ op_in_seq) od_inT (ha σ H s r) (hb σ H s r) hm
/-- equality of two that are the same flat thing -/
theorem ev_eqFlat {d : PyData} (hd : flatD d = true) (ha : EV X H0 ρ a d) (hb : EV X H0 ρ b d) : EV X H0 ρ (.Compare a [.Eq] [b] pos) (.bool true) := .mk fun σ H s r =>
  de_cmp (fun _ => op_eq) (fun v w' H Q r1 r2 q => by
    have q' := fun u => q u H (Same.refl _)
    cases r1 with
    | non => cases r2; exact ⟨rfl, q' _ (by rw [decide_eq_true rfl]; exact .bl true)⟩
    | bl b => cases r2; exact ⟨rfl, q' _ (by rw [decide_eq_true rfl]; exact .bl true)⟩
    | int b => cases r2; exact ⟨rfl, q' _ (by rw [decide_eq_true rfl]; exact .bl true)⟩
    | str b => cases r2; exact ⟨rfl, q' _ (by rw [decide_eq_true rfl]; exact .bl true)⟩
    | lst h t => cases hd
    | tup h t => cases hd
    | dct h t => cases hd) (ha σ H s r) (hb σ H s r) (nomark _)
theorem ev_eqB {x y : Bool} (ha : EV X H0 ρ a (.bool x)) (hb : EV X H0 ρ b (.bool y)) : EV X H0 ρ (.Compare a [.Eq] [b] pos) (.bool (decide (x = y))) := .mk fun σ H s r =>
  de_cmp (fun _ => op_eq) (fun v w' H Q r1 r2 q => by cases r1; cases r2; exact ⟨rfl, q _ H (Same.refl _) (by rw [show decide (V.bl x = V.bl y) = decide (x = y) by simp]; exact .bl _)⟩) (ha σ H s r) (hb σ H s r) (nomark _)
theorem eb_neB {x y : Bool} (ha : EV X H0 ρ a (.bool x)) (hb : EV X H0 ρ b (.bool y)) : EB X H0 ρ (.Compare a [.NotEq] [b] pos) (!decide (x = y)) := .mk fun σ H s r =>
  db_cmp (fun _ => op_ne) (fun v w' H Q r1 r2 q => by cases r1; cases r2; exact ⟨rfl, q _ H (Same.refl _) (by rw [show decide (V.bl x = V.bl y) = decide (x = y) by simp]; exact .bl _)⟩) (ha σ H s r) (hb σ H s r) (nomark _)
theorem eb_is_non {d : PyData} {j pos'} (ha : EV X H0 ρ a d) : EB X H0 ρ (.Compare a [.Is] [.Constant .none j pos'] pos) (isNon d) := .mk fun σ H s r H1 Q s1 k =>
  ⟨_, fun i => pt_cmp (pc_isN (pe_u i)), ha σ H s r H1 _ s1 fun v H2 x s2 rv e => by
    subst e
    refine ⟨_, rfl, k _ H2 s2 ?_⟩
    cases rv <;> rfl⟩
theorem eb_not_non {d : PyData} {j pos'} (ha : EV X H0 ρ a d) : EB X H0 ρ (.Compare a [.IsNot] [.Constant .none j pos'] pos) (!isNon d) := .mk fun σ H s r H1 Q s1 k =>
  ⟨_, fun i => pt_cmp (pc_notN (pe_u i)), ha σ H s r H1 _ s1 fun v H2 x s2 rv e => by
    subst e
    refine ⟨_, rfl, k _ H2 s2 ?_⟩
    cases rv <;> rfl⟩
/-- isinstance(x, (T, U)) -/
theorem ev_isi2 {d : PyData} {T U : String} {y z : Str} {q : Bool} {p2 p3 p4 : Pos} {kt} (hA : ∀ i, At (X i) P w K mg base k) (hm : mg "isinstance" = none) (hy : mg y = none) (hz : mg z = none) (hv : bootBuiltins y = some (.type T)) (hv' : bootBuiltins z = some (.type U)) (h : EV X H0 ρ a d) (hq : noDict d = true → PySem.W.kitAny K (.type (tyN d)) [.type T, .type U] = some q)
    (hg : ∀ i, Gl (X i) "isinstance" := by intro _; rfl) (hg2 : ∀ i, Gl (X i) y := by intro _; rfl) (hg3 : ∀ i, Gl (X i) z := by intro _; rfl) (hn : y ≠ "__name__" := by decide) (hdb : (y == ("__debug__" : Str)) = false := by decide) (hn' : z ≠ "__name__" := by decide) (hdb' : (z == ("__debug__" : Str)) = false := by decide)
    (hs : ∀ i, starEach [a, .Tuple [.Name y p2, .Name z p3] kt p4] (X i).env = (false, eval a (X i).env) :: starEach [.Tuple [.Name y p2, .Name z p3] kt p4] (X i).env := by intro _; rfl) (hs' : ∀ i, starEach [.Tuple [.Name y p2, .Name z p3] kt p4] (X i).env = (false, eval (.Tuple [.Name y p2, .Name z p3] kt p4) (X i).env) :: starEach [] (X i).env := by intro _; rfl)
    (hs1 : ∀ i, starEach [.Name y p2, .Name z p3] (X i).env = (false, eval (.Name y p2) (X i).env) :: starEach [.Name z p3] (X i).env := by intro _; rfl) (hs2 : ∀ i, starEach [.Name z p3] (X i).env = (false, eval (.Name z p3) (X i).env) :: starEach [] (X i).env := by intro _; rfl)
    (hpl : ∀ i, (backTo pos (starEach [.Tuple [.Name y p2, .Name z p3] kt p4] (X i).env)).any (·.1) = false := by intro _; rfl) :
    EV X H0 ρ (.Call (.Name "isinstance" p) [a, .Tuple [.Name y p2, .Name z p3] kt p4] [] pos) (.bool q) := .mk fun σ H s r H1 Q s1 k =>
  ⟨_, fun i => pe_callB ((hA i).K ▸ call_isiT) (hg i) (by rw [(hA i).mg]; exact hm) (by decide +kernel) (pa_cons (pe_u i) (pa_cons (pe_tup (pa_cons (pe_bltn (v := .ty T) (hg2 i) (by rw [(hA i).mg]; exact hy) hv rfl hn hdb) (pa_cons (pe_bltn (v := .ty U) (hg3 i) (by rw [(hA i).mg]; exact hz) hv' rfl hn' hdb') pa_nil (hs2 i)) (hs1 i))) pa_nil (hs' i)) (hs i)) (by decide) (by decide) (hs i) (hpl i),
    h σ H s r H1 _ s1 fun v H2 d' s2 rv e => by
      subst e
      refine ⟨(by show 2 ≤ sizeLine; exact Nat.le_of_lt (small1000 (by decide))), fun t ht => ?_⟩
      exact ⟨v, t, [.ty T, .ty U], _, [.type T, .type U], q, rfl, upd_same, .cons (.ty T) (.cons (.ty U) .nil), tyX_of (rv.mono (same_upd ht)), hq rv.nd, k _ _ _ (s2.trans (same_upd ht)) (.bl _) rfl⟩⟩
/-- max(xs), ints, not empty -/
def maxI : List Int → Int
  | [] => 0
  | x :: l => l.foldl max x
theorem foldl_max : ∀ (l : List Int) (x : Int), x ≤ l.foldl max x ∧ (∀ y ∈ l, y ≤ l.foldl max x) ∧ (l.foldl max x = x ∨ l.foldl max x ∈ l)
  | [], x => ⟨Int.le_refl _, fun y h => (by cases h), .inl rfl⟩
  | y :: l, x => by
    obtain ⟨h1, h2, h3⟩ := foldl_max l (max x y)
    refine ⟨Int.le_trans (by omega) h1, fun z hz => ?_, ?_⟩
    · rcases List.mem_cons.mp hz with e | hz
      · subst e; exact Int.le_trans (by omega) h1
      · exact h2 z hz
    · rcases h3 with e | h3
      · rw [List.foldl_cons, e]
        rcases Int.le_total x y with q | q
        · right; rw [Int.max_eq_right q]; exact List.mem_cons_self
        · left; exact Int.max_eq_left q
      · right; exact List.mem_cons_of_mem _ h3
theorem maxI_uniq {l : List Int} {m : Int} (h : m ∈ l) (hm : ∀ y ∈ l, y ≤ m) : m = maxI l := by
  cases l with
  | nil => cases h
  | cons x l =>
    obtain ⟨h1, h2, h3⟩ := foldl_max l x
    have a1 : maxI (x :: l) ∈ x :: l := by
      rcases h3 with e | h3
      · show l.foldl max x ∈ _; rw [e]; exact List.mem_cons_self
      · exact List.mem_cons_of_mem _ h3
    have a2 : m ≤ maxI (x :: l) := by
      rcases List.mem_cons.mp h with e | h
      · rw [e]; exact h1
      · exact h2 m h
    exact Int.le_antisymm a2 (hm _ a1)
theorem ev_max {ns : List Int} (hA : ∀ i, At (X i) P w K mg base k) (hm : mg "max" = none) (h : EV X H0 ρ e (.list (ns.map .int))) (h0 : 0 < ns.length) (hg : ∀ i, Gl (X i) "max" := by intro _; rfl) (ns' : ∀ i, starEach (e :: []) (X i).env = (false, eval e (X i).env) :: starEach [] (X i).env := by intro _; rfl) :
    EV X H0 ρ (.Call (.Name "max" p) [e] [] pos) (.int (maxI ns)) := .mk fun σ H s r =>
  dp_callB hA (fun i => (hA i).K ▸ cr_max (X := X i) (hA i).calm) hm (by decide +kernel) (da1 (h σ H s r) ns') (fun _ ⟨d, e1, e2⟩ => by
    rw [e1, e2]
    intro vs H Q r q
    obtain ⟨v, rfl, rv⟩ := r.one
    cases rv with
    | lst hh t =>
      rw [t.ints_inv] at hh
      refine ⟨_, ns, rfl, SqL.of hh, h0, fun m hm hle => ?_⟩
      exact q _ H _ (Same.refl _) (.int m) (by rw [maxI_uniq hm hle])) hg (by decide) (by decide) ns' (fun _ => rfl)

/-! #### loops -/
variable {D : Ends} {sts body : List Stmt} {g : TG} {ds : List PyData}
def TgR0 (g : TG) (d : PyData) (upd : Env1 → Env1) : Prop := ∀ (σ : St), ∃ S, TgD g σ d S ∧ ∀ σ2 H ρ, RpS H σ ρ → S σ2 H → RpS H σ2 (upd ρ)
theorem TgR.to0 {g : TG} {d : PyData} {vs : List Nat} {upd : Env1 → Env1} (h : TgR g d vs upd) : TgR0 g d upd := fun σ => let ⟨S, hS, q⟩ := h σ; ⟨S, hS, fun σ2 H ρ r z => (q σ2 H ρ r z).1⟩
/-- for tg in e: .., the slots told at each turn -/
theorem ws_for (hA : ∀ i, At (X i) P w K mg base k) (src : EI X H0 ρ tg e ds) (hg : ∀ i, PG (X i) tg g) (Rv : Nat → Env1 → Prop) (h0 : Rv 0 ρ)
    (step : ∀ i d ρ' H1, ds[i]? = some d → Rv i ρ' → Same H0 H1 → ∃ up, TgR0 g d up ∧ ∀ N : St → Hp → Prop, (∀ ρ'' σ H, Rv (i + 1) ρ'' → Same H1 H → RpS H σ ρ'' → N σ H) → WS X H1 (up ρ') body { D with nx := N, ct := N, bk := fun σ H => uB X sts D σ H })
    (fin : ∀ ρ', Rv ds.length ρ' → WS X H0 ρ' sts D) (hp : ∀ i, PassesOwn (model (X i).prog (X i).w) (X i).A (X i).env (X i).xe) (hf : ∀ i x, foldedSetIterable e (X i).env x = pure x := by intro _ _; rfl) : WS X H0 ρ (.For tg e body [] pos :: sts) D := .mk fun σ H s r =>
  wb_for hA (src σ H s r) hg (fun i σ' H' => ∃ ρ', Rv i ρ' ∧ RpS H' σ' ρ') (fun H' s' => ⟨ρ, h0, r.mono s'⟩)
    (fun i d σ' H' hd ⟨ρ', hv, r'⟩ s1 H2 s2 => by
      obtain ⟨up, tgr, q⟩ := step i d ρ' H2 hd hv (s.trans (s1.trans s2))
      obtain ⟨S, hS, z⟩ := tgr σ'
      refine ⟨S, hS, fun σ2 N hσ hN => ?_⟩
      exact q N (fun ρ'' σ H hv s3 r3 => hN σ H s3 ⟨ρ'', hv, r3⟩) σ2 H2 (Same.refl _) (z σ2 H2 _ (r'.mono s2) hσ))
    (fun σ' H' ⟨ρ', hv, r'⟩ s1 => fin ρ' hv σ' H' (s.trans s1) r') hp hf
end
end SW

set_option Elab.async false
set_option linter.all false
set_option maxRecDepth 100000
set_option maxHeartbeats 2000000
/-! Sw7: the row made, nested data in a tuple or a list, lists of ints in order. -/
namespace SW
open PySem L2
variable [Nm]
section
variable {I : Type} {X : I → Cx} {σ : St} {H : Hp}
theorem ub_close {sts : List Stmt} {D : Ends} {r a : Addr} {i s c : Int} (h : H r = some (.lst (rowV a i s c))) (b : 0 ≤ i ∧ 0 ≤ s ∧ s ≤ 2147483647 ∧ 0 ≤ c) (q : uB X sts D σ (upd H r (RowO r a))) : uB X sts D σ H :=
  ⟨fun D σ H => H r = some (.lst (rowV a i s c)) ∧ uB X sts D σ (upd H r (RowO r a)), fun j => ⟨fun pins s σ H D J hh => (pb_u j).run pins s σ _ _ (inv_close J hh.1 b) hh.2⟩, ⟨h, q⟩⟩
end
/-- d in a tuple of data -/
def rInDT (K : PySem.W.Frag) : R2 := fun x y H Q => ∃ d ds, Dp K H x d ∧ Dp K H y (.tuple ds) ∧ SeqAt.shaped d = true ∧ SeqAt.shaped (.tuple ds) = true ∧ Q (.bl (ds.any fun z => PyData.eqv z d)) H
theorem op_inDT {X : Cx} (hu : X.A.units + 65 < cLine) : OpR X (compareOp .In) (rInDT X.K) := by
  intro pins s σ H x y v u Q J rx ry ⟨d, ds, hd, hs, sd, ss, q⟩
  obtain ⟨_, r1⟩ := Dp.reads J d x v hd rx
  obtain ⟨_, r2⟩ := Dp.reads J (.tuple ds) y u hs ry
  exact SeqAt.in_tuple_reads r2 r1 (SeqAt.canLay_of_shaped ss) (SeqAt.canLay_of_shaped sd) (PyProof.Rows.room_in_shaped sd hu) ⟨.bl _, H, J, rfl, q⟩
section
variable {I : Type} {X : I → Cx} {H0 : Hp} {ρ : Env1} {tg e a b c : Expr} {es rest : List Expr} {pos : Pos}
variable {P : Program} {w : World} {K : PySem.W.Frag} {mg : Str → Option Value} {base : Heap} {k : Nat} {x : Str} {p : Pos} {ps : List Str}
theorem ep_tupleOf {Φ : List PyData → Prop} (hA : ∀ i, At (X i) P w K mg base k) (hm : mg "tuple" = none) (h : EP X H0 ρ e (fun d => ∃ ds, d = .list ds ∧ Φ ds)) (hg : ∀ i, Gl (X i) "tuple" := by intro _; rfl) (ns : ∀ i, starEach (e :: []) (X i).env = (false, eval e (X i).env) :: starEach [] (X i).env := by intro _; rfl) : EP X H0 ρ (.Call (.Name "tuple" p) [e] [] pos) (fun d => ∃ ds, d = .tuple ds ∧ Φ ds) := .mk fun σ H s r => dp_tupleOf hA hm (h σ H s r) hg ns
theorem ep_tup {x1} {Ψ : List PyData → Prop} (h : EA X H0 ρ es Ψ) (hz : ∀ ds, Ψ ds → ds.length ≤ sizeLine) : EP X H0 ρ (.Tuple es x1 pos) (fun d => ∃ ds, d = .tuple ds ∧ Ψ ds) := .mk fun σ H s r => dp_tup (h σ H s r) hz
theorem ep_lst {Ψ : List PyData → Prop} (h : EA X H0 ρ es Ψ) (hz : ∀ ds, Ψ ds → ds.length ≤ sizeLine) : EP X H0 ρ (.List es pos) (fun d => ∃ ds, d = .list ds ∧ Ψ ds) := .mk fun σ H s r => dp_lst (h σ H s r) hz
theorem ev_neg {i : Int} (ha : EV X H0 ρ a (.int i)) : EV X H0 ρ (.UnaryOp .USub a pos) (.int (-i)) := .mk fun σ H s r H1 Q s1 k =>
  ⟨_, fun j => pe_un un_neg (pe_u j), ha σ H s r H1 _ s1 fun v H2 x s2 rv e => by subst e; cases rv; exact ⟨i, rfl, k _ H2 _ s2 (.int _) rfl⟩⟩
theorem At.hu5 {X : Cx} {k : Nat} (h : At X P w K mg base (k + 1)) : X.A.units + 65 < cLine := by have := h.room.un; omega
theorem ev_inDT {d : PyData} {ds : List PyData} (hA : ∀ i, At (X i) P w K mg base (k + 1)) (ha : EV X H0 ρ a d) (hb : EV X H0 ρ b (.tuple ds)) (h1 : Shp d) (h2 : Shp (.tuple ds)) (hm : behindInMarks .In b = false := by rfl) : EV X H0 ρ (.Compare a [.In] [b] pos) (.bool (ds.any fun z => PyData.eqv z d)) := .mk fun σ H s r =>
  de_cmp (r := rInDT K) (fun i => (hA i).K ▸ op_inDT (hA i).hu5) (fun v w' H Q r1 r2 q => ⟨d, ds, r1.dp (SeqAt.canLay_of_shaped h1), r2.dp (SeqAt.canLay_of_shaped h2), h1, h2, q _ H (Same.refl _) (.bl _)⟩) (ha σ H s r) (hb σ H s r) hm
theorem ev_inDL {d : PyData} {ds : List PyData} (hA : ∀ i, At (X i) P w K mg base (k + 1)) (ha : EV X H0 ρ a d) (hb : EV X H0 ρ b (.list ds)) (h1 : Shp d) (h2 : Shp (.list ds)) (hm : behindInMarks .In b = false := by rfl) : EV X H0 ρ (.Compare a [.In] [b] pos) (.bool (ds.any fun z => PyData.eqv z d)) := .mk fun σ H s r =>
  de_cmp (r := rInD K) (fun i => (hA i).K ▸ op_inD (hA i).hu5) (fun v w' H Q r1 r2 q => ⟨d, ds, r1.dp (SeqAt.canLay_of_shaped h1), r2.dp (SeqAt.canLay_of_shaped h2), h1, h2, q _ H (Same.refl _) (.bl _)⟩) (ha σ H s r) (hb σ H s r) hm
end
/-! ### lists of ints, in the order of tuples -/
theorem lexLt_irrefl : ∀ l : List Int, HT.lexLt l l = false
  | [] => rfl
  | x :: l => by rw [HT.lexLt_cons, if_pos rfl]; exact lexLt_irrefl l
theorem lexLt_trans : ∀ {a b c : List Int}, HT.lexLt a b = true → HT.lexLt b c = true → HT.lexLt a c = true
  | [], [], _, h, _ => by cases h
  | [], _ :: _, [], _, h => by cases h
  | [], _ :: _, _ :: _, _, _ => rfl
  | _ :: _, [], _, h, _ => by cases h
  | _ :: _, _ :: _, [], _, h => by cases h
  | x :: a, y :: b, z :: c, h1, h2 => by
    rw [HT.lexLt_cons] at h1 h2 ⊢
    by_cases e1 : x = y
    · subst e1
      rw [if_pos rfl] at h1
      by_cases e2 : x = z
      · subst e2
        rw [if_pos rfl] at h2 ⊢
        exact lexLt_trans h1 h2
      · rw [if_neg e2] at h2 ⊢
        exact h2
    · rw [if_neg e1] at h1
      have h1' := of_decide_eq_true h1
      by_cases e2 : y = z
      · subst e2
        rw [if_neg e1]
        exact h1
      · rw [if_neg e2] at h2
        have h2' := of_decide_eq_true h2
        rw [if_neg (by omega)]
        exact decide_eq_true (by omega)
/-- L: just the lists of sts, each once, in order -/
structure SrtSet (L sts : List (List Int)) : Prop where
  asc : L.Pairwise (fun a b => HT.lexLt a b = true)
  mem : ∀ s, s ∈ L ↔ s ∈ sts
theorem asc_uniq : ∀ {L M : List (List Int)}, L.Pairwise (fun a b => HT.lexLt a b = true) → M.Pairwise (fun a b => HT.lexLt a b = true) → (∀ s, s ∈ L ↔ s ∈ M) → L = M
  | [], [], _, _, _ => rfl
  | [], m :: M, _, _, h => by have := (h m).mpr List.mem_cons_self; cases this
  | l :: L, [], _, _, h => by have := (h l).mp List.mem_cons_self; cases this
  | l :: L, m :: M, h1, h2, h => by
    obtain ⟨a1, a2⟩ := List.pairwise_cons.mp h1
    obtain ⟨b1, b2⟩ := List.pairwise_cons.mp h2
    have e : l = m := by
      rcases List.mem_cons.mp ((h l).mp List.mem_cons_self) with e | hm
      · exact e
      · rcases List.mem_cons.mp ((h m).mpr List.mem_cons_self) with e | hl
        · exact e.symm
        · have q := lexLt_trans (a1 m hl) (b1 l hm)
          rw [lexLt_irrefl] at q
          cases q
    subst e
    have nl : l ∉ L := fun hl => by have q := a1 l hl; rw [lexLt_irrefl] at q; cases q
    have nm : l ∉ M := fun hl => by have q := b1 l hl; rw [lexLt_irrefl] at q; cases q
    rw [asc_uniq a2 b2 fun s => ⟨fun hs => ?_, fun hs => ?_⟩]
    · rcases List.mem_cons.mp ((h s).mp (List.mem_cons_of_mem _ hs)) with e | hs'
      · subst e; exact absurd hs nl
      · exact hs'
    · rcases List.mem_cons.mp ((h s).mpr (List.mem_cons_of_mem _ hs)) with e | hs'
      · subst e; exact absurd hs nm
      · exact hs'
theorem SrtSet.uniq {L M sts sts' : List (List Int)} (h1 : SrtSet L sts) (h2 : SrtSet M sts') (h : ∀ s, s ∈ sts ↔ s ∈ sts') : L = M :=
  asc_uniq h1.asc h2.asc fun s => (h1.mem s).trans ((h s).trans (h2.mem s).symm)
end SW

set_option Elab.async false
set_option linter.all false
set_option maxRecDepth 100000
set_option maxHeartbeats 2000000
/-! SwD: dicts whose keys are ints, as data: d[k], dict comprehensions. -/
namespace SW
open PySem L2
variable [Nm]
/-- a dict of ints -/
def dctI (ks : List (Int × PyData)) : PyData := .dict (ks.map fun p => (.int p.1, p.2))
def lookI {α : Type} (ks : List (Int × α)) (k : Int) : Option α := (ks.find? fun p => decide (p.1 = k)).map (·.2)
theorem keyD_int {k : Key} {n : Int} (h : keyD k = .int n) : k = .inl n := by
  cases k with
  | inl i => cases h; rfl
  | inr x => cases h
theorem RpD.look {H : Hp} : ∀ {kvs : List (Key × V)} {ks : List (Int × PyData)} {k : Int} {d : PyData}, RpD H kvs (ks.map fun p => (.int p.1, p.2)) → lookI ks k = some d → ∃ v, valV kvs (.inl k) = some v ∧ Rp H v d
  | kvs, [], k, d, _, e => by cases e
  | kvs, q :: ks, k, d, r, e => by
    generalize hm : (q :: ks).map (fun p : Int × PyData => (PyData.int p.1, p.2)) = l at r
    rw [List.map_cons] at hm
    cases r with
    | nil => cases hm
    | @cons k0 v0 kvs0 d0 ds0 rv rs =>
      injection hm with h1 h2
      injection h1 with h3 h4
      have ek := keyD_int h3.symm
      subst ek h4 h2
      unfold lookI at e
      rw [List.find?_cons] at e
      unfold valV
      rw [List.find?_cons]
      by_cases c : q.1 = k
      · rw [decide_eq_true c] at e
        rw [show decide ((Sum.inl q.1 : Key) = Sum.inl k) = true from decide_eq_true (congrArg Sum.inl c)]
        cases e
        exact ⟨v0, rfl, rv⟩
      · rw [decide_eq_false c] at e
        rw [show decide ((Sum.inl q.1 : Key) = Sum.inl k) = false from decide_eq_false fun z => c (Sum.inl.inj z)]
        exact RpD.look rs e
theorem RpD.length {H : Hp} : ∀ {kvs : List (Key × V)} {ds : List (PyData × PyData)}, RpD H kvs ds → kvs.length = ds.length
  | _, _, .nil => rfl
  | _, _, .cons _ r => congrArg (· + 1) r.length
theorem RpD.append {H : Hp} : ∀ {kvs : List (Key × V)} {ds : List (PyData × PyData)} {k : Key} {v : V} {d : PyData}, RpD H kvs ds → Rp H v d → RpD H (kvs ++ [(k, v)]) (ds ++ [(keyD k, d)])
  | _, _, _, _, _, .nil, h => .cons h .nil
  | _, _, _, _, _, .cons h r, h2 => .cons h (r.append h2)
theorem RpD.keys {H : Hp} : ∀ {kvs : List (Key × V)} {ks : List (Int × PyData)}, RpD H kvs (ks.map fun p => (.int p.1, p.2)) → kvs.map Prod.fst = ks.map fun p => Sum.inl p.1
  | kvs, [], r => by cases r; rfl
  | kvs, q :: ks, r => by
    generalize hm : (q :: ks).map (fun p : Int × PyData => (PyData.int p.1, p.2)) = l at r
    rw [List.map_cons] at hm
    cases r with
    | nil => cases hm
    | cons rv rs =>
      injection hm with h1 h2
      injection h1 with h3 h4
      have ek := keyD_int h3.symm
      subst ek h4 h2
      rw [List.map_cons, List.map_cons, RpD.keys rs]
/-- a new key stands at the end -/
theorem putK_new {kvs : List (Key × V)} {k : Key} {v : V} (h : k ∉ kvs.map Prod.fst) : putK kvs k v = kvs ++ [(k, v)] := by
  unfold putK
  rw [if_neg]
  intro z
  obtain ⟨p, hp, e⟩ := List.any_eq_true.mp z
  exact h (List.mem_map.mpr ⟨p, hp, of_decide_eq_true e⟩)
/-! #### a dict under making, hidden for a while -/
def Dph (P : Program) (w : World) (D : Addr) (kvs : List (Key × V)) : Heap → Prop := fun h => kvs.length ≤ sizeLine ∧ (D == sysModules) = false ∧ ∃ vs, KV kvs vs ∧ h.DictOf (mixKind P w) D vs
section
variable {X : Cx} {pins : List (Addr × Obj)} {s : Shared} {σ : St} {H : Hp} {D : Addr} {kvs : List (Key × V)} {P : Program} {w : World}
theorem inv_hideD (hP : X.prog = P) (hw : X.w = w) (J : Inv X pins σ H s) (h : H D = some (.dK kvs)) : Inv X pins σ (upd H D (.ext (Dph P w D kvs))) s := by
  subst hP hw
  have q : ObjOk X.prog X.w H s.heap D (.dK kvs) := J.hok D _ h
  have q1 : Dph X.prog X.w D kvs s.heap := q
  obtain ⟨hz, hs, vs, kv, ob, es, ep, ho, r⟩ := id q1
  refine J.write (e := D) (h' := s.heap) (t' := s.toks) (by rw [h]; trivial) (.inl rfl) (fun b u _ q => q) ⟨_, ho⟩ ⟨q1, ⟨_, ho⟩, fun h1 h2 p k => ?_⟩
  obtain ⟨hz, hs, vs, kv, ob, es, ep, ho, r⟩ := p
  exact ⟨hz, hs, vs, kv, ob, es, ep, k _ ho, r⟩
theorem inv_showD (hP : X.prog = P) (hw : X.w = w) (J : Inv X pins σ H s) (h : H D = some (.ext (Dph P w D kvs))) : Inv X pins σ (upd H D (.dK kvs)) s := by
  subst hP hw
  have q1 : Dph X.prog X.w D kvs s.heap := (J.hok D _ h).1
  obtain ⟨hz, hs, vs, kv, ob, es, ep, ho, r⟩ := id q1
  exact J.write (e := D) (h' := s.heap) (t' := s.toks) (by rw [h]; trivial) (.inl rfl) (fun b u _ q => q) ⟨_, ho⟩ q1
end
section
variable {I : Type} {X : I → Cx} {σ : St} {H H' : Hp} {tg e a b c : Expr} {es rest : List Expr} {pos : Pos}
variable {P : Program} {w : World} {K : PySem.W.Frag} {mg : Str → Option Value} {base : Heap} {k : Nat} {x : Str} {p : Pos} {ps : List Str}
theorem ue_hideD {D : Addr} {kvs : List (Key × V)} {Q : VK} (hA : ∀ i, At (X i) P w K mg base k) (h : H D = some (.dK kvs)) (q : uE X e σ (upd H D (.ext (Dph P w D kvs))) fun v H' => H' D = some (.ext (Dph P w D kvs)) ∧ Q v (upd H' D (.dK kvs))) : uE X e σ H Q := by
  refine ⟨fun σ H Q => ∃ kvs, H D = some (.dK kvs) ∧ uE X e σ (upd H D (.ext (Dph P w D kvs))) fun v H' => H' D = some (.ext (Dph P w D kvs)) ∧ Q v (upd H' D (.dK kvs)), fun i => ⟨fun pins s σ H Q J hh => ?_⟩, ⟨kvs, h, q⟩⟩
  obtain ⟨kvs, h1, h2⟩ := hh
  refine thn ((pe_u i).run pins s σ _ _ (inv_hideD (hA i).prog (hA i).w J h1) h2) fun v s' ⟨v', H', J', r, h3, h4⟩ => ⟨v', _, inv_showD (hA i).prog (hA i).w J' h3, r, h4⟩
theorem uts_hideD {ifs : List Expr} {D : Addr} {kvs : List (Key × V)} {Q : Bool → Hp → Prop} (hA : ∀ i, At (X i) P w K mg base k) (h : H D = some (.dK kvs)) (q : uTs X ifs σ (upd H D (.ext (Dph P w D kvs))) fun v H' => H' D = some (.ext (Dph P w D kvs)) ∧ Q v (upd H' D (.dK kvs))) : uTs X ifs σ H Q := by
  refine ⟨fun σ H Q => ∃ kvs, H D = some (.dK kvs) ∧ uTs X ifs σ (upd H D (.ext (Dph P w D kvs))) fun v H' => H' D = some (.ext (Dph P w D kvs)) ∧ Q v (upd H' D (.dK kvs)), fun i => ⟨fun pins s σ H Q J hh => ?_⟩, ⟨kvs, h, q⟩⟩
  obtain ⟨kvs, h1, h2⟩ := hh
  refine thn ((pts_u i).run pins s σ _ _ (inv_hideD (hA i).prog (hA i).w J h1) h2) fun v s' ⟨H', J', h3, h4⟩ => ⟨_, inv_showD (hA i).prog (hA i).w J' h3, h4⟩
/-- d[k] -/
theorem de_ixD {ks : List (Int × PyData)} {n : Int} {d : PyData} (hA : ∀ i, At (X i) P w K mg base (k + 1)) (ha : DE X σ H a (dctI ks)) (hb : DE X σ H b (.int n)) (h : lookI ks n = some d) (hs : NoSl b := by exact fun _ _ => rfl) : DE X σ H (.Subscript a b pos) d := fun H1 Q s q =>
  ⟨_, fun i => pe_dget (by have := (hA i).hu5; omega) (pe_u i) (pe_u i) hs, ha H1 _ s fun v H2 d1 s2 r1 e1 => hb H2 _ (s.trans s2) fun v2 H3 d2 s3 r2 e2 => by
    subst e1 e2
    cases r2
    unfold dctI at r1
    cases r1 with
    | dct hr r =>
      obtain ⟨z, h1, h2⟩ := r.look h
      have hr3 : Rd H3 _ _ := hr.imp (fun q => s3 _ _ q) fun ⟨o, q⟩ => ⟨o, s3 _ _ q⟩
      exact ⟨_, z, rfl, .inl ⟨_, .inl n, hr3, rfl, h1.symm⟩, q z H3 d (s2.trans s3) (h2.mono s3) rfl⟩⟩
/-- {kx: vx for tg in e if ..} -/
theorem dp_dc {kx vx : Expr} {ifs : List Expr} {scope : Scope} {own : List (Str × Nat)} {g : TG} {ds : List PyData} (hA : ∀ i, At (X i) P w K mg base k) (hN : ∀ i, (X i).N.Nodup) (ok : ∀ i, BlkOk (X i).N (X i).env.scope scope own)
    (hg : ∀ i, PG (blkF X scope i) tg g) (src : DI X σ H tg e ds) (Pv : Nat → List (Int × PyData) → Prop) (h0 : Pv 0 [])
    (step : ∀ i d acc, ds[i]? = some d → Pv i acc → ∃ S, TgD g (wipe σ (own.map (·.2))) d S ∧ ∀ H' σ2, Same H H' → S σ2 H' → wipe σ2 (own.map (·.2)) = wipe σ (own.map (·.2)) ∧ ∃ Φ : Bool → Prop, DTs (blkF X scope) σ2 H' ifs Φ ∧
      (Φ false → Pv (i + 1) acc) ∧ (Φ true → ∃ n, (∀ q ∈ acc, q.1 ≠ n) ∧ DE (blkF X scope) σ2 H' kx (.int n) ∧ ∃ Ψ, DP (blkF X scope) σ2 H' vx Ψ ∧ ∀ y, Ψ y → Pv (i + 1) (acc ++ [(n, y)])))
    (hs : ∀ i x, foldedSetIterable e (X i).env x = pure x := by intro _ _; rfl) :
    DP X σ H (.DictComp kx vx [⟨tg, e, ifs, 0⟩] scope pos) (fun d => ∃ acc, d = dctI acc ∧ Pv ds.length acc) := fun H1 Q s q => by
  refine ⟨tDc (uI X tg e) g (uTs (blkF X scope) ifs) (uE (blkF X scope) kx) (uE (blkF X scope) vx) (own.map (·.2)), fun i => pe_dc (hA i).calm (hN i) (pi_u i) (ok i) (fun s H C cl fp => hg (i, s, H, C, cl, fp)) (fun s H C cl fp => pts_u (X := blkF X scope) (i, s, H, C, cl, fp)) (fun s H C cl fp => pe_u (X := blkF X scope) (i, s, H, C, cl, fp)) (fun s H C cl fp => pe_u (X := blkF X scope) (i, s, H, C, cl, fp)) (hs i), ?_⟩
  refine src H1 _ s fun J H2 s2 y hlen D hD => ?_
  have cut : ∀ {H3 : Hp} {kvs kvs' : List (Key × V)}, SameX D H3 (upd (upd H3 D (.dK kvs)) D (.ext (Dph P w D kvs'))) := fun {H3 kvs kvs'} b o hb q _ => by rw [upd_ne hb, upd_ne hb]; exact q
  refine ⟨fun i m H' => m = ds.length - i ∧ i ≤ ds.length ∧ ∃ kvs acc, H' D = some (.dK kvs) ∧ RpD (upd H' D (.ext (Dph P w D kvs))) kvs (acc.map fun p : Int × PyData => (.int p.1, p.2)) ∧ acc.length ≤ i ∧ Pv i acc ∧ Same H2 H', ⟨ds.length, by simp, Nat.zero_le _, [], [], upd_same, .nil, Nat.le_refl _, h0, same_upd hD⟩, ?_⟩
  rintro i m H3 ⟨rfl, hi, kvs, acc, hD3, ra, hl, pv, s3⟩
  obtain ⟨y1, y2⟩ := y H3 (same_e s3) i
  rcases Nat.lt_or_ge i ds.length with hlt | hge
  · refine .inr ⟨(y1 hlt).1, ?_⟩
    obtain ⟨d, hd⟩ : ∃ d, ds[i]? = some d := ⟨_, List.getElem?_eq_getElem hlt⟩
    refine ⟨fun H' => i + 1 ≤ ds.length ∧ ∃ kvs acc, H' D = some (.dK kvs) ∧ RpD (upd H' D (.ext (Dph P w D kvs))) kvs (acc.map fun p : Int × PyData => (.int p.1, p.2)) ∧ acc.length ≤ i + 1 ∧ Pv (i + 1) acc ∧ Same H2 H', fun H' n => ⟨ds.length - (i + 1), by omega, rfl, n⟩, fun x H4 yx => ?_⟩
    obtain ⟨s4, d', hd', _, rx⟩ := (y1 hlt).2 x H4 yx
    obtain rfl : d = d' := Option.some.inj (hd.symm.trans hd')
    have hD4 : H4 D = some (.dK kvs) := s4 _ _ hD3
    have s24 := same_hide (u := .ext (Dph P w D kvs)) (s3.trans s4) hD hD4
    obtain ⟨S, hS, rest⟩ := step i d acc hd pv
    refine hS x H4 (upd H4 D (.ext (Dph P w D kvs))) _ (fun a xs q => ?_) (rx D _ (.inl hD) ⟨_, hD3⟩) fun σ2 hσ => ?_
    · have ne : a ≠ D := fun z => by rw [z, upd_same] at q; cases q
      rwa [upd_ne ne] at q
    obtain ⟨hw, Φ, ht, h1, h2⟩ := rest _ σ2 (s.trans (s2.trans s24)) hσ
    refine ⟨hw, uts_hideD (at_blk hA) hD4 (ht _ _ (Same.refl _) fun c H5 s5 hc => ⟨s5 _ _ upd_same, ?_⟩)⟩
    have hD5 : H5 D = some (.ext (Dph P w D kvs)) := s5 _ _ upd_same
    have s25 : Same H2 H5 := s24.trans s5
    have ra5 : RpD H5 kvs _ := ra.monoX upd_same fun b o hb q n => s5.at_ _ _ (by rw [upd_ne hb] at q ⊢; exact s4.at_ _ _ q n) n
    cases c with
    | false =>
      refine iteF ⟨hlt, kvs, acc, upd_same, ?_, by omega, h1 hc, same_hide s25 hD hD5⟩
      exact ra5.monoX hD5 cut
    | true =>
      obtain ⟨n, fresh, hk, Ψ, he, h3⟩ := h2 hc
      have over : ∀ {Hx : Hp}, Hx D = some (.ext (Dph P w D kvs)) → Same Hx (upd (upd Hx D (.dK kvs)) D (.ext (Dph P w D kvs))) := fun {Hx} hx => Same.of fun b o q => by
        rw [upd_upd]
        by_cases hb : b = D
        · subst hb; rw [hx] at q; rw [upd_same]; exact q
        · rw [upd_ne hb]; exact q
      refine iteT (ue_hideD (at_blk hA) upd_same ?_)
      refine hk _ _ (s5.trans (over hD5)) fun kv H6 kd s6 rk fk => ⟨s6 _ _ upd_same, ?_⟩
      subst fk
      cases rk
      have hD6 : H6 D = some (.ext (Dph P w D kvs)) := s6 _ _ upd_same
      refine ue_hideD (at_blk hA) upd_same ?_
      refine he _ _ (s5.trans ((over hD5).trans (s6.trans (over hD6)))) fun yv H7 yd s7 ry fy => ?_
      have hD7 : H7 D = some (.ext (Dph P w D kvs)) := s7 _ _ upd_same
      have s57 : Same H5 H7 := (over hD5).trans (s6.trans ((over hD6).trans s7))
      have ra7 : RpD H7 kvs _ := ra5.mono s57
      have hk7 : (Sum.inl n : Key) ∉ kvs.map Prod.fst := fun z => by
        rw [ra7.keys] at z
        obtain ⟨p, hp, e⟩ := List.mem_map.mp z
        exact fresh p hp (Sum.inl.inj e)
      refine ⟨hD7, kvs, .inl n, rfl, upd_same, by rw [ra7.length, List.length_map]; omega, ?_⟩
      rw [putK_new hk7]
      have mv : SameX D H7 (upd (upd (upd H7 D (.dK kvs)) D (.dK (kvs ++ [(.inl n, yv)]))) D (.ext (Dph P w D (kvs ++ [(.inl n, yv)])))) := fun b o hb q _ => by rw [upd_ne hb, upd_ne hb, upd_ne hb]; exact q
      refine ⟨hlt, kvs ++ [(.inl n, yv)], acc ++ [(n, yd)], upd_same, ?_, by rw [List.length_append, List.length_singleton]; omega, h3 yd fy, ?_⟩
      · rw [List.map_append]
        exact (ra7.monoX hD7 mv).append (k := .inl n) (ry.monoX hD7 mv)
      · exact same_hide (same_hide (s25.trans s57) hD hD7) hD upd_same
  · have e1 : i = ds.length := by omega
    subst e1
    exact .inl ⟨y2 rfl, q (.ref D) H3 _ (s2.trans s3) (.dct (.inl hD3) (ra.monoX upd_same fun b o hb q _ => by rw [upd_ne hb] at q; exact q)) ⟨acc, rfl, pv⟩⟩
end
end SW

set_option Elab.async false
set_option linter.all false
set_option maxRecDepth 100000
set_option maxHeartbeats 2000000
/-! SwDw: a dict that is walked: locked for a while. -/
namespace SW
open PySem L2
variable [Nm]
theorem Rd.one {H : Hp} {a : Addr} {x y : List (Key × V)} (h : Rd H a (.dK x)) (h' : Rd H a (.dK y)) : x = y := by
  rcases h with h | ⟨o, h⟩ <;> rcases h' with h' | ⟨o', h'⟩ <;> rw [h] at h'
  · cases h'; rfl
  · cases h'
  · cases h'
  · cases h'; rfl
section
variable {H H' : Hp} {D : Addr} {kvs : List (Key × V)}
mutual
theorem Rp.swapF (hd : Rd H D (.dK kvs)) (hd' : Rd H' D (.dK kvs)) (e : SameX D H H') : ∀ {v : V} {d : PyData}, Rp H v d → Rp H' v d
  | _, _, .non => .non
  | _, _, .bl b => .bl b
  | _, _, .int i => .int i
  | _, _, .str x => .str x
  | _, _, .lst h r => .lst (e _ _ (fun z => by rw [z] at h; rcases hd with q | ⟨o, q⟩ <;> rw [h] at q <;> cases q) h rfl) (RpA.swapF hd hd' e r)
  | _, _, .tup h r => .tup (e _ _ (fun z => by rw [z] at h; rcases hd with q | ⟨o, q⟩ <;> rw [h] at q <;> cases q) h rfl) (RpA.swapF hd hd' e r)
  | _, _, .dct (a := a) (kvs := k2) h r => .dct (by
      by_cases z : a = D
      · rw [z] at h ⊢
        rw [Rd.one h hd]
        exact hd'
      · exact h.imp (fun q => e _ _ z q rfl) fun ⟨o, q⟩ => ⟨o, e _ _ z q rfl⟩) (RpD.swapF hd hd' e r)
theorem RpD.swapF (hd : Rd H D (.dK kvs)) (hd' : Rd H' D (.dK kvs)) (e : SameX D H H') : ∀ {v : List (Key × V)} {d : List (PyData × PyData)}, RpD H v d → RpD H' v d
  | _, _, .nil => .nil
  | _, _, .cons h r => .cons (h.swapF hd hd' e) (r.swapF hd hd' e)
theorem RpA.swapF (hd : Rd H D (.dK kvs)) (hd' : Rd H' D (.dK kvs)) (e : SameX D H H') : ∀ {v : List V} {d : List PyData}, RpA H v d → RpA H' v d
  | _, _, .nil => .nil
  | _, _, .cons h r => .cons (h.swapF hd hd' e) (r.swapF hd hd' e)
end
end
section
variable {I : Type} {X : I → Cx} {σ : St} {H H' : Hp} {tg e a b c : Expr} {es rest : List Expr} {pos : Pos} {D : Addr} {kvs : List (Key × V)}
variable {P : Program} {w : World} {K : PySem.W.Frag} {mg : Str → Option Value} {base : Heap} {k : Nat} {x : Str} {p : Pos} {ps : List Str}
theorem ue_lock {Q : VK} (h : H D = some (.dK kvs)) (q : ∀ od, uE X e σ (upd H D (.frz od (.dK kvs))) fun v H' => H' D = some (.frz od (.dK kvs)) ∧ Q v (upd H' D (.dK kvs))) : uE X e σ H Q := by
  refine ⟨fun σ H Q => ∃ kvs, H D = some (.dK kvs) ∧ ∀ od, uE X e σ (upd H D (.frz od (.dK kvs))) fun v H' => H' D = some (.frz od (.dK kvs)) ∧ Q v (upd H' D (.dK kvs)), fun i => ⟨fun pins s σ H Q J hh => ?_⟩, ⟨kvs, h, q⟩⟩
  obtain ⟨kvs, h1, h2⟩ := hh
  have mu : Mut (some (.dK kvs)) := trivial
  obtain ⟨od, J2⟩ := J.lock h1 mu
  refine thn ((pe_u i).run pins s σ _ _ J2 (h2 od)) fun v s' ⟨v', H', J', r, h3, h4⟩ => ⟨v', _, J'.unlock h3 (J.nofrz h1 mu), r, h4⟩
/-- e, the dict at D being locked -/
theorem dp_lock {Φ : PyData → Prop} (hv : Rd H D (.dK kvs)) (h : ∀ H' o, H' D = some (.frz o (.dK kvs)) → SameX D H H' → (∀ P, TabF H P → TabF H' P) → DP X σ H' e Φ) : DP X σ H e Φ := fun H1 Q s q => by
  rcases hv with hv | ⟨o, hv⟩
  · have h1 : H1 D = some (.dK kvs) := s _ _ hv
    refine ue_lock h1 fun od => h (upd H1 D (.frz od (.dK kvs))) od upd_same (fun b u hb q' n => by rw [upd_ne hb]; exact s.at_ _ _ q' n) (fun P t => (s.tab P t).write h1 rfl) _ _ (Same.refl _) fun v H2 d s2 r f => ?_
    have hD2 := s2 _ _ upd_same
    exact ⟨hD2, q v _ d (same_back h1 s2 hD2) (r.swapF (.inr ⟨od, hD2⟩) (.inl upd_same) fun b u hb q' _ => by rw [upd_ne hb]; exact q') f⟩
  · exact h H1 o (s _ _ hv) (fun b u _ q' n => s.at_ _ _ q' n) s.tab H1 Q (Same.refl _) q
theorem kV_rp {H : Hp} : ∀ k : Key, Rp H (kV k) (keyD k)
  | .inl i => .int i
  | .inr x => .str x
theorem yld_keys {o : Obj} (h : H D = some (.frz o (.dK kvs))) : Yld (Itk D o kvs) H (kvs.map fun q => keyD q.1) := fun H' s i => by
  have q : H' D = some (.frz o (.dK kvs)) := s _ _ h rfl
  rw [List.length_map]
  refine ⟨fun hi => ⟨⟨q, hi⟩, fun x H'' y => ?_⟩, fun hi => ⟨q, Nat.le_of_eq hi.symm⟩⟩
  obtain ⟨e, k, v, e1, e2⟩ := y
  subst e e2
  exact ⟨Same.refl _, _, by rw [List.getElem?_map, e1] <;> rfl, kV_rp k, fun _ _ _ _ => kV_rp k⟩
/-- for x in d: its keys, d a locked dict that a slot holds -/
theorem di_keys {j : Nat} {o : Obj} (hpv : ∀ i, PE (X i) e (tVar j)) (hσ : σ[j]? = some (some (.ref D))) (hD : H D = some (.frz o (.dK kvs))) (hz : kvs.length ≤ sizeLine) : DI X σ H tg e (kvs.map fun q => keyD q.1) := fun H1 R s q =>
  ⟨iKeys (tVar j), fun i => pi_keys (hpv i), _, hσ, D, o, rfl, .inl ⟨kvs, s _ _ hD, q _ H1 (Same.refl _) (yld_keys (s _ _ hD)) (by rw [List.length_map]; exact hz)⟩⟩
end
/-! ### over slots -/
section
variable {I : Type} {X : I → Cx} {H0 : Hp} {ρ : Env1} {tg e a b c : Expr} {es rest : List Expr} {pos : Pos}
variable {P : Program} {w : World} {K : PySem.W.Frag} {mg : Str → Option Value} {base : Heap} {k : Nat} {x : Str} {p : Pos} {ps : List Str}
theorem ev_ixD {ks : List (Int × PyData)} {n : Int} {d : PyData} (hA : ∀ i, At (X i) P w K mg base (k + 1)) (ha : EV X H0 ρ a (dctI ks)) (hb : EV X H0 ρ b (.int n)) (h : lookI ks n = some d) (hs : NoSl b := by exact fun _ _ => rfl) : EV X H0 ρ (.Subscript a b pos) d := .mk fun σ H s r => de_ixD hA (ha σ H s r) (hb σ H s r) h hs
theorem fm_take {α β : Type} {F : α → Option β} {l : List α} {i : Nat} {x : α} (h : l[i]? = some x) : (l.take (i + 1)).filterMap F = (l.take i).filterMap F ++ (F x).toList := by
  rw [take_next h, List.filterMap_append]
  cases e : F x with
  | none => rw [List.filterMap_cons_none e] <;> rfl
  | some y => rw [List.filterMap_cons_some e] <;> rfl
theorem fresh_key {α β : Type} {F : α → Option (Int × β)} {l : List α} {i : Nat} {x : α} {n : Int} {y : β} (h : l[i]? = some x) (e : F x = some (n, y)) (nd : ((l.filterMap F).map Prod.fst).Nodup) : ∀ q ∈ (l.take i).filterMap F, q.1 ≠ n := fun q hq z => by
  have cut : l = l.take (i + 1) ++ l.drop (i + 1) := (List.take_append_drop _ _).symm
  rw [cut, List.filterMap_append, fm_take h, e, List.map_append, List.map_append] at nd
  have n2 := (List.nodup_append.mp nd).1
  have n3 := (List.nodup_append.mp n2).2.2 q.1 (List.mem_map.mpr ⟨q, hq, rfl⟩) n (by simp)
  exact n3 z
/-- nothing need stand -/
def noH : Hp := fun _ => none
theorem same_no (H : Hp) : Same noH H := Same.of fun b o q => by cases q
theorem EP.any {Φ : PyData → Prop} (h : EP X noH ρ e Φ) : EP X H0 ρ e Φ := .mk fun σ H _ r => h σ H (same_no H) r
/-- {kx: vx for tg in e if ..}, all known -/
theorem ev_dcF {kx vx : Expr} {ifs : List Expr} {scope : Scope} {own : List (Str × Nat)} {g : TG} {ds : List PyData} (hA : ∀ i, At (X i) P w K mg base k) {N : List Str} {sc : Scope} (S : Sc X N sc) (hg : ∀ i, PG (blkF X scope i) tg g) (src : EI X H0 ρ tg e ds) (F : PyData → Option (Int × PyData)) (nd : ((ds.filterMap F).map Prod.fst).Nodup)
    (step : ∀ d, d ∈ ds → ∃ upd, TgR g d (own.map (·.2)) upd ∧ EBs (blkF X scope) H0 (upd (wipeR ρ (own.map (·.2)))) ifs (F d).isSome ∧ (∀ y, F d = some y → EV (blkF X scope) H0 (upd (wipeR ρ (own.map (·.2)))) kx (.int y.1) ∧ EV (blkF X scope) H0 (upd (wipeR ρ (own.map (·.2)))) vx y.2))
    (ok : blkC N sc scope own = true := by decide +kernel) (hs : ∀ i x, foldedSetIterable e (X i).env x = pure x := by intro _ _; rfl) :
    EV X H0 ρ (.DictComp kx vx [⟨tg, e, ifs, 0⟩] scope pos) (dctI (ds.filterMap F)) := .mk fun σ H s r => by
  refine (dp_dc (own := own) (g := g) hA S.ndx (S.ok ok) hg (src σ H s r) (fun j acc => acc = (ds.take j).filterMap F) (by rw [List.take_zero] <;> rfl) (fun j d acc hd pv => ?_) hs).mono fun d ⟨acc, e1, e2⟩ => by rw [e1, e2, List.take_length]
  obtain ⟨up, tg, h1, h2⟩ := step d (List.mem_of_getElem? hd)
  obtain ⟨S', hS, q⟩ := tg (wipe σ (own.map (·.2)))
  refine ⟨S', hS, fun H' σ2 s' z => ?_⟩
  obtain ⟨r2, w2⟩ := q σ2 H' _ ((r.mono s').wipe _) z
  refine ⟨w2.trans wipe_wipe, _, h1 σ2 H' (s.trans s') r2, fun e1 => ?_, fun e1 => ?_⟩
  · rw [fm_take hd]
    cases hF : F d with
    | none => rw [pv]; exact (List.append_nil _).symm
    | some y => rw [hF] at e1; cases e1
  · cases hF : F d with
    | none => rw [hF] at e1; cases e1
    | some y =>
      obtain ⟨k1, k2⟩ := h2 y hF
      refine ⟨y.1, by rw [pv]; exact fresh_key hd hF nd, k1 σ2 H' (s.trans s') r2, _, k2 σ2 H' (s.trans s') r2, fun z ez => ?_⟩
      rw [ez, fm_take hd, hF, pv] <;> rfl
theorem RpS.swapF {H H' : Hp} {σ : St} {D : Addr} {kvs : List (Key × V)} (hd : Rd H D (.dK kvs)) (hd' : Rd H' D (.dK kvs)) (e : SameX D H H') (r : RpS H σ ρ) : RpS H' σ ρ := ⟨r.len, fun i => by
  have q := r.at_ i
  revert q
  cases ρ[i]? with
  | none => exact fun _ => trivial
  | some z => cases z with
    | none => exact fun _ => trivial
    | some z => cases z with
      | dat d => exact fun ⟨v, e1, rv⟩ => ⟨v, e1, rv.swapF hd hd' e⟩
      | raw v => exact fun q => q⟩
/-- {kx: vx for y in d if ..}, d a dict that a slot holds; what is asked of the turns may lean on nothing that stood -/
theorem ev_dcKeys {kx vx : Expr} {ifs : List Expr} {scope : Scope} {own : List (Str × Nat)} {g : TG} {ks : List (Int × PyData)} {j : Nat} (hA : ∀ i, At (X i) P w K mg base k) {N : List Str} {sc : Scope} (S : Sc X N sc) (hg : ∀ i, PG (blkF X scope i) tg g)
    (hpv : ∀ i, PE (X i) e (tVar j)) (hj : ρ[j]? = some (some (.dat (dctI ks)))) (hz : ks.length ≤ sizeLine) (F : PyData → Option (Int × PyData)) (nd : (((ks.map fun q => PyData.int q.1).filterMap F).map Prod.fst).Nodup)
    (step : ∀ d, d ∈ ks.map (fun q => PyData.int q.1) → ∃ upd, TgR g d (own.map (·.2)) upd ∧ EBs (blkF X scope) noH (upd (wipeR ρ (own.map (·.2)))) ifs (F d).isSome ∧ (∀ y, F d = some y → EV (blkF X scope) noH (upd (wipeR ρ (own.map (·.2)))) kx (.int y.1) ∧ EV (blkF X scope) noH (upd (wipeR ρ (own.map (·.2)))) vx y.2))
    (ok : blkC N sc scope own = true := by decide +kernel) (hs : ∀ i x, foldedSetIterable e (X i).env x = pure x := by intro _ _; rfl) :
    EV X H0 ρ (.DictComp kx vx [⟨tg, e, ifs, 0⟩] scope pos) (dctI ((ks.map fun q => PyData.int q.1).filterMap F)) := .mk fun σ H s r => by
  obtain ⟨v, h1, h2⟩ := r.get hj
  unfold dctI at h2
  cases h2 with
  | @dct D kvs _ hr rr =>
    refine dp_lock hr fun H' o hD e' _ => ?_
    have hd' : Rd H' D (.dK kvs) := .inr ⟨o, hD⟩
    have r' : RpS H' σ ρ := r.swapF hr hd' e'
    have keys : (kvs.map fun q => keyD q.1) = ks.map fun q => PyData.int q.1 := by
      have z := rr.keys
      have z2 := congrArg (List.map keyD) z
      rw [List.map_map, List.map_map] at z2
      exact z2
    have hz' : kvs.length ≤ sizeLine := by rw [rr.length, List.length_map]; exact hz
    have src : DI X σ H' tg e (ks.map fun q => PyData.int q.1) := keys ▸ di_keys hpv h1 hD hz'
    refine (dp_dc (own := own) (g := g) hA S.ndx (S.ok ok) hg src (fun j acc => acc = ((ks.map fun q => PyData.int q.1).take j).filterMap F) (by rw [List.take_zero] <;> rfl) (fun j d acc hd pv => ?_) hs).mono fun d ⟨acc, e1, e2⟩ => by rw [e1, e2, List.take_length] <;> rfl
    obtain ⟨up, tg, t1, t2⟩ := step d (List.mem_of_getElem? hd)
    obtain ⟨S', hS, q⟩ := tg (wipe σ (own.map (·.2)))
    refine ⟨S', hS, fun H2 σ2 s' z => ?_⟩
    obtain ⟨r2, w2⟩ := q σ2 H2 _ ((r'.mono s').wipe _) z
    refine ⟨w2.trans wipe_wipe, _, t1 σ2 H2 (same_no H2) r2, fun e1 => ?_, fun e1 => ?_⟩
    · rw [fm_take hd]
      cases hF : F d with
      | none => rw [pv]; exact (List.append_nil _).symm
      | some y => rw [hF] at e1; cases e1
    · cases hF : F d with
      | none => rw [hF] at e1; cases e1
      | some y =>
        obtain ⟨k1, k2⟩ := t2 y hF
        refine ⟨y.1, by rw [pv]; exact fresh_key hd hF nd, k1 σ2 H2 (same_no H2) r2, _, k2 σ2 H2 (same_no H2) r2, fun z ez => ?_⟩
        rw [ez, fm_take hd, hF, pv] <;> rfl
end
/-! ### a dict as a test -/
section
variable {X : Cx} {a : Expr} {ta : TE}
theorem pt_truthD (ha : PE X a ta) (he : ∀ whole, isTrue a X.env whole = (do let v ← whole; standAt a.pos; holding [v] (truthy v))) :
    PT X a (fun σ H Q => ta σ H fun x H' => ∃ (p : Addr) (kvs : List (Key × V)), x = .ref p ∧ Rd H' p (.dK kvs) ∧ Q (!kvs.isEmpty) H') := by
  refine ⟨fun pins s σ H Q I h => ?_⟩
  exact PyProof.Rows.isTrue_plain (thn (ha.run pins s σ H _ I h) fun v s1 ⟨x, H1, I1, r1, p, kvs, e, hr, q⟩ => by
    subst e
    cases r1
    exact d_truth I1 hr fun s' I' => ⟨H1, I', q⟩) (he _)
end
section
variable {I : Type} {X : I → Cx} {H0 : Hp} {ρ : Env1} {e : Expr}
theorem eb_truthD {ks : List (Int × PyData)} (h : EV X H0 ρ e (dctI ks)) (he : ∀ i whole, isTrue e (X i).env whole = (do let v ← whole; standAt e.pos; holding [v] (truthy v)) := by intro _ _; rfl) : EB X H0 ρ e (!ks.isEmpty) := .mk fun σ H s r H1 Q s1 q =>
  ⟨_, fun i => pt_truthD (pe_u i) (he i), h σ H s r H1 _ s1 fun v H2 d s2 rv e1 => by
    subst e1
    unfold dctI at rv
    cases rv with
    | @dct D kvs0 _ hr rr =>
      refine ⟨_, _, rfl, hr, q _ H2 s2 ?_⟩
      have z := rr.length
      rw [List.length_map] at z
      cases ks with
      | nil => cases rr; rfl
      | cons a l =>
        cases kvs0 with
        | nil => cases z
        | cons b m => rfl⟩
end
end SW

set_option Elab.async false
set_option linter.all false
set_option maxRecDepth 100000
set_option maxHeartbeats 2000000
/-! SwLam: lambdas that read names of their maker: made, called; min(d, key=lambda x: ..) over a dict. -/
namespace SW
open PySem PySem.Spec PyProof.Rows
open L2 hiding Same
open LamX (TabB)
variable [Nm]
/-- the lambda's object at f, its code at c' -/
def LamAt (H : Hp) (f c' : Addr) (q : Str) (params : Arguments) (body : Expr) (scope : Scope) (cl : List (Str × Addr)) : Prop :=
  ∃ pm ctv, H f = some (.frz (PySem.W.kla_obj "<lambda>" q params body scope cl pm c' ctv) (.own 0)) ∧ CodH H c' q
section
variable {X : Cx} {pins : List (Addr × Obj)} {σ : L2.St} {H : Hp} {s : Shared}
/-- a code object and a lambda are new, the table tells the code -/
theorem inv_grow {P c f : Addr} {ps more : Array Value} {h' : Heap} {t' : Nat} {oc fo : Obj} (J : Inv X pins σ H s) (hP : H P = some (.tbl ps)) (kept : ∀ b o, b ≠ P → s.heap.get? b = some o → h'.get? b = some o)
    (atP : h'.get? P = some { cls := .none, data := .fields (ps ++ more) }) (newC : s.heap.objs.size ≤ c) (newF : s.heap.objs.size ≤ f) (dif : c ≠ f) (atC : h'.get? c = some oc) (atF : h'.get? f = some fo) :
    Inv X pins σ (upd (upd (upd H P (.tbl (ps ++ more))) c (.frz oc (.own 0))) f (.frz fo (.own 0))) { s with heap := h', toks := t' } := by
  generalize hG : upd (upd (upd H P (.tbl (ps ++ more))) c (.frz oc (.own 0))) f (.frz fo (.own 0)) = G
  have cN : H c = none := J.hok.fresh newC
  have fN : H f = none := J.hok.fresh newF
  have Pc : P ≠ c := ne_of_none hP cN
  have Pf : P ≠ f := ne_of_none hP fN
  have gP : G P = some (.tbl (ps ++ more)) := by rw [← hG, upd_ne Pf, upd_ne Pc, upd_same]
  have gC : G c = some (.frz oc (.own 0)) := by rw [← hG, upd_ne dif, upd_same]
  have gF : G f = some (.frz fo (.own 0)) := by rw [← hG, upd_same]
  have gE : ∀ b, b ≠ P → b ≠ c → b ≠ f → G b = H b := fun b h1 h2 h3 => by rw [← hG, upd_ne h3, upd_ne h2, upd_ne h1]
  have old : ∀ b o, s.heap.get? b = some o → b ≠ c ∧ b ≠ f := fun b o e => ⟨fun z => Nat.lt_irrefl _ (Nat.lt_of_lt_of_le (z ▸ Heap.lt_size e) newC), fun z => Nat.lt_irrefl _ (Nat.lt_of_lt_of_le (z ▸ Heap.lt_size e) newF)⟩
  have nP : ∀ b, H b = none → b ≠ P := fun b e => (ne_of_none hP e).symm
  have keepL : ∀ b u, H b = some u → nT u = true → G b = some u := fun b u e n => by
    have h1 : b ≠ P := fun z => by
      rw [z, hP] at e
      cases e
      cases n
    rw [gE b h1 (ne_of_none e cN) (ne_of_none e fN)]
    exact e
  refine J.step (g' := s.gens) (d' := s.drawn) (ch := []) (fun b hb => nomatch hb) (fun b o _ _ _ e n => kept b o (nP b n) e) (fun b o _ _ _ e n => ⟨o.slots, kept b o (nP b n) e⟩)
    (fun b o _ e n => ?_) (fun b o _ e => ?_) (fun b xs e => keepL b _ e rfl) (fun b o u e => keepL b _ e rfl) (fun b qs e => ?_) (fun m hm => ?_) (fun b u e => ?_) J.bare
  · rw [gE b (nP b n) (old b o e).1 (old b o e).2]
    exact n
  · rcases Classical.em (b = P) with z | z
    · exact ⟨_, z ▸ atP⟩
    · exact ⟨o, kept b o z e⟩
  · rcases Classical.em (b = P) with z | z
    · subst z
      rw [hP] at e
      cases e
      exact ⟨more, gP⟩
    · refine ⟨#[], ?_⟩
      rw [gE b z (ne_of_none e cN) (ne_of_none e fN), e, Array.append_empty]
  · obtain ⟨ob, es, ep, ho, rest⟩ := hm
    exact ⟨ob, es, ep, kept _ ob (nP _ J.free) ho, rest⟩
  · rcases Classical.em (b = f) with z | zf
    · subst z
      rw [gF] at e
      cases e
      exact ⟨atF, _, atF⟩
    rcases Classical.em (b = c) with z | zc
    · subst z
      rw [gC] at e
      cases e
      exact ⟨atC, _, atC⟩
    rcases Classical.em (b = P) with z | zP
    · subst z
      rw [gP] at e
      cases e
      exact atP
    · rw [gE b zP zc zf] at e
      refine (J.hok b u e).stay (fun d v hd q => kept d v ?_ q) (fun d q => keepL d _ q rfl) fun d xs q => keepL d _ q rfl
      rcases hd with z | z
      · exact z ▸ zP
      · intro y
        rw [y, hP] at z
        cases z
theorem same_grow {P c f : Addr} {ps : Array Value} {oc fo : Obj} {vs : Array Value} {t : Tok} {pos : Pos} (J : Inv X pins σ H s) (hP : H P = some (.tbl ps))
    (newC : s.heap.objs.size ≤ c) (newF : s.heap.objs.size ≤ f) (dif : c ≠ f) (hd : oc.data = .fields vs) (hv : vs[1]? = some (.str (Nm.nm pos.line pos.col) t)) :
    Same H (upd (upd (upd H P (.tbl (ps ++ #[rawInt pos.line, rawInt pos.col, .ref c]))) c (.frz oc (.own 0))) f (.frz fo (.own 0))) := by
  have cN : H c = none := J.hok.fresh newC
  have fN : H f = none := J.hok.fresh newF
  have Pc : P ≠ c := ne_of_none hP cN
  have Pf : P ≠ f := ne_of_none hP fN
  have keepL : ∀ b u, H b = some u → nT u = true → upd (upd (upd H P (.tbl (ps ++ #[rawInt pos.line, rawInt pos.col, .ref c]))) c (.frz oc (.own 0))) f (.frz fo (.own 0)) b = some u := fun b u e n => by
    have h1 : b ≠ P := fun z => by
      rw [z, hP] at e
      cases e
      cases n
    rw [upd_ne (ne_of_none e fN), upd_ne (ne_of_none e cN), upd_ne h1]
    exact e
  have codK : ∀ {a r}, CodH H a r → CodH (upd (upd (upd H P (.tbl (ps ++ #[rawInt pos.line, rawInt pos.col, .ref c]))) c (.frz oc (.own 0))) f (.frz fo (.own 0))) a r := fun {a r} ⟨o, v, t, h1, h2⟩ => ⟨o, v, t, keepL _ _ h1 rfl, h2⟩
  refine ⟨fun b o e n => keepL b o e n, fun P' ht => ?_⟩
  obtain ⟨ps', h1, h2, h3⟩ := ht
  rcases Classical.em (P' = P) with z | z
  · subst z
    rw [hP] at h1
    cases h1
    have eL : (ps ++ #[rawInt pos.line, rawInt pos.col, .ref c]).toList = ps.toList ++ [rawInt pos.line, rawInt pos.col, .ref c] := by simp
    refine ⟨_, by rw [upd_ne Pf, upd_ne Pc, upd_same], by rw [eL]; exact PySem.TriplesOk_snoc _ _ _ _ h2, fun p cv hc => ?_⟩
    rw [eL] at hc
    rcases NdefX.among_app2 _ h2 hc with y | ⟨y1, y2, y3⟩
    · obtain ⟨c0, e1, e2⟩ := h3 p cv y
      exact ⟨c0, e1, codK e2⟩
    · refine ⟨c, y1, oc, vs, t, ?_, hd, ?_⟩
      · rw [upd_ne dif, upd_same]
      · rw [hv, y2, y3]
  · exact ⟨ps', by rw [upd_ne (ne_of_none h1 fN), upd_ne (ne_of_none h1 cN), upd_ne z]; exact h1, h2, fun p cv hc => let ⟨c0, e1, e2⟩ := h3 p cv hc; ⟨c0, e1, codK e2⟩⟩
/-- what a lambda comes to: its object, all that stood -/
def tLam (P : Addr) (q : Str) (params : Arguments) (body : Expr) (scope : Scope) (cl : List (Str × Addr)) : TE := fun σ H Q => TabF H P ∧ ∀ f c' H1, Same H H1 → LamAt H1 f c' q params body scope cl → Q (.ref f) H1
theorem pe_lam {c P : Addr} {params : Arguments} {body : Expr} {scope : Scope} {pos : Pos} (TB : TabB X.base X.mg c P) (hcode : X.env.code = .ref c) (hq : Nm.nm pos.line pos.col = X.env.qual ++ "<lambda>") (hdef : defaultsOf params X.env = ([], []))
    (hfree : X.Ok → ∀ y ∈ scope.names, y.2 = .free → ∃ c, X.env.cells.lookup y.1 = some c) : PE X (.Lambda params body scope pos) (tLam P (X.env.qual ++ "<lambda>") params body scope (cloFrom X.env.cells scope.names [])) := by
  refine ⟨fun pins s σ H Q J h => ?_⟩
  obtain ⟨⟨ps, hP, tr, tell⟩, h⟩ := h
  have bi : s.heap.BuiltinsAt X.mg P := TB.bm.keeps J.bk
  have objP : s.heap.get? P = some { cls := .none, data := .fields ps } := J.hok P _ hP
  refine PySem.W.kla_eval hdef ?_
  cases hc : codeAmong pos ps.toList with
  | none =>
    refine PySem.W.kla_makeFunction (mg := X.mg) (c := c) (P := P) (ps := ps) (closure_ok (hfree J.ok)) J.ok.glob (J.mod.glob.keeps J.bk) hcode (TB.code.keeps J.bk) objP tr hc TB.gP bi fun c' ctv h' tk kept ge lt rec_ tab => ?_
    obtain ⟨c2, oc, vs, t, e2, hoc, hd, hv⟩ := rec_
    cases e2
    have sz : s.heap.objs.size ≤ h'.objs.size := Nat.le_trans ge (Nat.le_of_lt lt)
    have dif : c' ≠ h'.objs.size := Nat.ne_of_lt lt
    have J1 := inv_grow (t' := tk) (more := #[rawInt pos.line, rawInt pos.col, .ref c']) (h' := h'.push (PySem.W.kla_obj "<lambda>" (X.env.qual ++ "<lambda>") params body scope (cloFrom X.env.cells scope.names []) ((X.mg "__name__").getD .none) c' ctv)) J hP
      (fun b o hb e => Heap.get?_push_of_some _ (kept b o hb e)) (Heap.get?_push_of_some _ tab) ge sz dif (Heap.get?_push_of_some _ hoc) (Heap.get?_push_size _ rfl)
    refine ⟨.ref h'.objs.size, _, J1, rfl, h _ c' _ (same_grow J hP ge sz dif hd (by rw [hq]; exact hv)) ⟨_, ctv, upd_same, oc, vs, t, by rw [upd_ne dif, upd_same], hd, hv⟩⟩
  | some cv =>
    obtain ⟨c', e, oc, vs, t, hoc, hd, hv⟩ := tell pos cv hc
    subst e
    refine PySem.W.kla_makeFunctionHit (mg := X.mg) (c := c) (P := P) (ps := ps) (closure_ok (hfree J.ok)) J.ok.glob (J.mod.glob.keeps J.bk) hcode (TB.code.keeps J.bk) objP tr hc bi fun ctv h' tk kept sz => ?_
    have fN : H h'.objs.size = none := J.hok.fresh sz
    have J1 : Inv X pins σ (upd H h'.objs.size (.frz (PySem.W.kla_obj "<lambda>" (X.env.qual ++ "<lambda>") params body scope (cloFrom X.env.cells scope.names []) ((X.mg "__name__").getD .none) c' ctv) (.own 0))) _ :=
      J.laid (t' := tk) (h' := h'.push (PySem.W.kla_obj "<lambda>" (X.env.qual ++ "<lambda>") params body scope (cloFrom X.env.cells scope.names []) ((X.mg "__name__").getD .none) c' ctv)) (fun b o e => Heap.get?_push_of_some _ (kept b o e)) sz ⟨Heap.get?_push_size _ rfl, _, Heap.get?_push_size _ rfl⟩
    refine ⟨.ref h'.objs.size, _, J1, rfl, h _ c' _ (same_upd fN) ⟨_, ctv, upd_same, oc, vs, t, ?_, hd, by rw [← hq]; exact hv⟩⟩
    rw [upd_ne (ne_of_none hoc fN)]
    exact hoc
end
open NdefX (NF NScope CellsAt startF envF ncx inv_startN Caps cells_of slotAt)
/-- the frame of a lambda's body -/
abbrev lamF (q : Str) (params : Arguments) (scope : Scope) (cl : List (Str × Addr)) (c' : Addr) : NF := ⟨"<lambda>", q, params, [], scope, cl, c'⟩
section
variable {CX : CXT} {P : Program} {w : World} {K : PySem.W.Frag} {mg : Str → Option Value} {base : Heap} {N ps fr : List Str} {f c' : Addr} {A : Around} {outer : List Env} {s : Shared} {H : Hp} {E : XK} {us : List Value} {vs : List V} {ws : List (Option V)} {k : Nat} {Q : VK}
variable {q : Str} {params : Arguments} {body : Expr} {scope : Scope} {cl : List (Str × Addr)} {tb : TE}
theorem lam_run (S : NScope N ps fr scope) (hb : ∀ (pm ctv : Value), bindArgs (PySem.W.kla_fn "<lambda>" q params body scope cl pm (.ref c') ctv) ⟨us, []⟩ = pure (ps.zip us)) (hr : Room (k + 1) A) (e0 : Env0 P w K mg base A outer s H) (lam : LamAt H f c' q params body scope cl)
    (C : CellsAt cl fr ws s.heap H) (r : Vals vs us) (hl : vs.length = ps.length) (hbody : Room k (A.deeper (envF (lamF q params scope cl c') f s.heap.objs.size)) → PE (ncx CX P w K mg base N (lamF q params scope cl c') f A outer s H E) body tb) (ht : tb (startF N vs ws) H Q) :
    codeAny (model P w) A (.call (.ref f) ⟨us, []⟩) (CR CX outer P w H s Q E) s := by
  obtain ⟨pm, ctv, hf, oc, wv, t, hoc, hd, hv⟩ := lam
  have of : s.heap.get? f = some (PySem.W.kla_obj "<lambda>" q params body scope cl pm c' ctv) := (show ObjOk P w H s.heap f _ from e0.hok f _ hf).1
  have occ : s.heap.get? c' = some oc := (show ObjOk P w H s.heap c' _ from e0.hok c' _ hoc).1
  have lim : s.heap.NoLimit := e0.mod.nolimit.keeps fun b o e => (e0.bs b o e).1
  refine PySem.W.kla_callFunE hr.depth of rfl S.co S.gen rfl ⟨c', oc, wv, t, rfl, occ, hd, hv⟩ ?_
  rw [hb pm ctv]
  refine wpAny_pure (wpAny_newFunctionEnv S.nocell (fun ⟨n, _⟩ hy => S.par n (List.of_mem_zip hy).1) (fun h₁ hns hsb => ⟨lim.fresh _ hsb, ?_⟩) S.kind)
  show codeAny _ _ (.expr body (envF (lamF q params scope cl c') f s.heap.objs.size)) _ _
  have kp : ∀ b o, s.heap.get? b = some o → h₁.get? b = some o := fun b o e => hsb.extBut b o (Nat.ne_of_lt (Heap.lt_size e)) (Heap.get?_push_of_some _ e)
  have J : Inv (ncx CX P w K mg base N (lamF q params scope cl c') f A outer s H E) [] (startF N vs ws) H { s with heap := h₁, toks := s.toks + (ps.zip us).length } := inv_startN (F := lamF q params scope cl c') S hr.hd e0 hl r C hns kp
  refine PySem.W.kla_codeExpr (wpAny_mono ((hbody (hr.deeper _)).run [] _ _ H Q J ht) (fun v s' z => ?_) fun e s' z => z)
  obtain ⟨v', H', J', rv, z⟩ := z
  exact ⟨v', H', J'.os, J'.bare, J'.base, J'.hok, rv, z⟩
end
/-- min(e, key=lambda x: body), e a locked dict -/
def rMinKey (P : Addr) (N : List Str) (js : List Nat) (tb : TE) (σ : L2.St) (Q : VK) (v : V) (H1 : Hp) : Prop := ∃ D o kvs, v = .ref D ∧ H1 D = some (.frz o (.dK kvs)) ∧ 0 < kvs.length ∧ TabF H1 P ∧ ∀ H2, Same H1 H2 → ∃ kf : Nat → Int,
  (∀ (i : Nat) k v, kvs[i]? = some (k, v) → ∀ Q' : VK, Q' (.int (kf i)) H2 → tb (startF N [kV k] (js.map (slotAt σ))) H2 Q') ∧ ∀ k v, kvs[argBest (fun i j => decide (kf i < kf j)) (kvs.length - 1)]? = some (k, v) → Q (kV k) H2
def tMinKey (te : TE) (P : Addr) (N : List Str) (js : List Nat) (tb : TE) : TE := fun σ H Q => te σ H fun v H1 => rMinKey P N js tb σ Q v H1
/-- a walk of ours leaves the tracked things as they are -/
theorem inv_moved {X : Cx} {pins : List (Addr × Obj)} {σ : L2.St} {H : Hp} {s s' : Shared} {wr : List Addr} (J : Inv X pins σ H s) (m : Moved wr (fun a b => b = a) s s') (hf : ∀ b ∈ wr, FpOk X pins H b) : Inv X pins σ H s' := by
  obtain ⟨hh, g, d, t, os⟩ := s'
  obtain ⟨m1, m2, m3, m4, m5⟩ := m
  obtain rfl : g = s.gens := m2
  obtain rfl : d = s.drawn := m3
  obtain rfl : os = s.os := m4
  exact J.turnedL (h' := hh) (t' := t) m1 hf
section
variable {X : Cx} {e : Expr} {te tb : TE} {c P : Addr} {params : Arguments} {body : Expr} {scope : Scope} {lpos kp p pos : Pos} {N fr : List Str} {js : List Nat} {x : Str} {k : Nat} {cl : List (Str × Addr)} {q : Str}
theorem min_run {pins : List (Addr × Obj)} {σ : L2.St} {H : Hp} {s : Shared} {Q : VK} {D f c' : Addr} {o : Obj} {kvs : List (Key × V)} {kf : Nat → Int} (J : Inv X pins σ H s) (hD : H D = some (.frz o (.dK kvs))) (hn : 0 < kvs.length) (lam : LamAt H f c' q params body scope cl)
    (S : NScope N [x] fr scope) (cp : X.Ok → Caps X cl fr js) (hb : ∀ (pm cd ctv u : Value), bindArgs (PySem.W.kla_fn "<lambda>" q params body scope cl pm cd ctv) ⟨[u], []⟩ = pure [(x, u)]) (hr : Room (k + 2) X.A)
    (hbody : ∀ (A : Around) (outer : List Env) (s : Shared) (H : Hp) (f c' : Addr), Room k (A.deeper (envF (lamF q params scope cl c') f s.heap.objs.size)) → PE (ncx CX0 X.prog X.w X.K X.mg X.base N (lamF q params scope cl c') f A outer s H E0) body tb)
    (h1 : ∀ (i : Nat) k v, kvs[i]? = some (k, v) → ∀ Q' : VK, Q' (.int (kf i)) H → tb (startF N [kV k] (js.map (slotAt σ))) H Q') (h2 : ∀ k v, kvs[argBest (fun i j => decide (kf i < kf j)) (kvs.length - 1)]? = some (k, v) → Q (kV k) H) :
    wpAny (model X.prog X.w) X.A (call (.builtin "min") [.ref D] [(Str.ofString "key", .ref f)]) (L2.EP X pins σ Q) X.xe s := by
  obtain ⟨hs, hgd, hx, es, ep, vs, hdt, hsz, kv, hm⟩ := J.frzK hD
  have hl : kvs.length = vs.length := Paired.length kv
  have hcal : X.A.handled = none := hr.hd
  refine call_min_walkK (iter_keys hs hgd hx hdt ?_)
  have J0 : Inv X pins σ H { s with heap := s.heap.push { cls := .type "dict_keyiterator", data := .fields #[.ref D, .int 0 0, .int es.size 0, .int ep 0] } } := J.kept (t' := s.toks) fun b o e => Heap.get?_push_of_some _ e
  have ne : D ≠ s.heap.objs.size := Nat.ne_of_lt (Heap.lt_size hgd)
  have fI : FpOk X pins H s.heap.objs.size := J.fpOk (Nat.le_refl _) (J.hok.fresh (Nat.le_refl _))
  let s3 : Shared := { s with heap := s.heap.push { cls := .type "dict_keyiterator", data := .fields #[.ref D, .int 0 0, .int es.size 0, .int ep 0] } }
  have fS : FpOk X pins H s3.heap.objs.size := J0.fpOk (Nat.le_refl _) (J0.hok.fresh (Nat.le_refl _))
  have W := (Walks.dictKeys (prog := X.prog) (w := X.w) (knd := mixKind X.prog X.w) (A := X.A.in1.in1) hcal s.heap.objs.size D ne vs ep).toS.of_in1
  have gD : ∀ {s' : Shared}, Inv X pins σ H s' → s'.heap.get? D = some o := fun I' => (show ObjOk X.prog X.w H _ D _ from I'.hok D _ hD).1
  have notFr : ∀ {s' : Shared} {b : Addr}, Inv X pins σ H s' → FpOk X pins H b → b ∉ frs X.stack := fun I' fb z => (List.mem_cons.mp (I'.stkSub _ z)).elim fb.2.1 fb.2.2.1
  have kvE : ∀ {i : Nat} {k : Key} {x : Value}, vs[i]? = some (k, x) → ∃ v, kvs[i]? = some (k, v) := fun {i k x} e => by
    have hi := (List.getElem?_eq_some_iff.mp e).1
    rw [← hl] at hi
    obtain ⟨⟨k1, v1⟩, h1⟩ : ∃ r, kvs[i]? = some r := ⟨_, List.getElem?_eq_getElem hi⟩
    obtain ⟨u, hu, _⟩ := kv_get kv h1
    rw [e] at hu
    cases hu
    exact ⟨v1, h1⟩
  refine ⟨s.heap.objs.size, _, _, _, vs.length, _, _, fun s' => Inv X pins σ H s', fun i u _ => ∃ t, u = .int (kf i) t, fun i j => decide (kf i < kf j), rfl, W, ⟨⟨_, Heap.get?_push_size _ rfl, rfl, by rw [hsz, hl] <;> rfl⟩, hm.at' fun o e => Heap.get?_push_of_some _ e⟩, fun b hb => ?_, by rw [← hl]; exact hn, ?_, J0, fun v s' hP J' => ?_⟩
  · show b < (s.heap.push _).objs.size
    rw [Heap.size_push]
    rcases List.mem_cons.mp hb with z | z
    · rw [z]; exact Nat.lt_succ_self _
    · rw [List.mem_singleton.mp z]; exact Nat.lt_succ_of_lt (Heap.lt_size hgd)
  · refine ⟨fun s1 s2 J1 m => inv_moved J1 m fun b hb => ?_, fun i u s1 s2 h _ => h, fun i v s1 oS Qx Ex hi hP J1 st hS cont => ?_, fun i j ki kj s1 Qx Ex _ hi hj hq => ?_⟩
    · rcases List.mem_cons.mp hb with z | z
      · rw [z]; exact fS
      · rw [List.mem_singleton.mp z]; exact fI
    · obtain ⟨kk, xx, e1, e2⟩ := hP
      obtain ⟨vv, e3⟩ := kvE e1
      have run := lam_run (CX := CX0) (E := E0) (K := X.K) (mg := X.mg) (base := X.base) (us := [v]) (vs := [kV kk]) (Q := fun v' H' => v' = .int (kf i) ∧ H' = H) S (fun pm ctv => hb pm _ ctv v) hr.in1 J1.env0.in1 lam (cells_of J1 (cp J1.ok)) (.cons (relV_key e2) .nil) rfl (hbody _ _ _ _ _ _) (h1 i kk vv e3 _ ⟨rfl, rfl⟩)
      refine wpAny_call (codeAny_mono run fun r s2 hq => ?_)
      cases r with
      | error e => exact (show False from hq).elim
      | ok fl =>
        cases fl with
        | next => exact hq.elim
        | brk => exact hq.elim
        | cont => exact hq.elim
        | ret u =>
          have un : Un (frs X.stack) [] H _ s1.heap s2.heap := hq.choose_spec.choose_spec.2.2.1
          obtain ⟨v', H', J2, rv, rfl, rfl⟩ := J1.after hq
          obtain ⟨t, rfl⟩ := rv
          have keepF : ∀ b ob, FpOk X pins H' b → s1.heap.get? b = some ob → s2.heap.get? b = some ob := fun b ob fb e => un.keep b ob e fb.1 (notFr J1 fb) (fun z => nomatch z)
          refine cont _ s2 J2 ⟨st.1.at fun ob e => keepF _ ob fI e, st.2.at' fun ob e => ?_⟩ (keepF _ oS fS hS) ⟨t, rfl⟩ fun j k' h => h
          rw [gD J1] at e
          rw [gD J2]
          exact e
    · exact CmpOf.ints_lt (prog := X.prog) (w := X.w) (A := X.A.in1) (P := fun i v => ∃ t, v = .int (kf i) t) kf (fun i v h => h) i j _ _ _ _ _ hi hj hq
  · obtain ⟨kk, xx, e1, e2⟩ := hP
    obtain ⟨vv, e3⟩ := kvE e1
    exact ⟨kV kk, H, J', relV_key e2, h2 kk vv (by rw [hl]; exact e3)⟩
theorem pe_minKey (hg : Gl X "min") (hm : X.mg "min" = none) (he : PE X e te) (TB : TabB X.base X.mg c P) (hcode : X.env.code = .ref c) (hq : Nm.nm lpos.line lpos.col = X.env.qual ++ "<lambda>") (hdef : defaultsOf params X.env = ([], []))
    (hfree : X.Ok → ∀ y ∈ scope.names, y.2 = .free → ∃ c, X.env.cells.lookup y.1 = some c) (S : NScope N [x] fr scope) (cp : X.Ok → Caps X (cloFrom X.env.cells scope.names []) fr js)
    (hb : ∀ (q : Str) (cl : List (Str × Addr)) (pm cd ctv u : Value), bindArgs (PySem.W.kla_fn "<lambda>" q params body scope cl pm cd ctv) ⟨[u], []⟩ = pure [(x, u)]) (hr : Room (k + 2) X.A)
    (hbody : ∀ (A : Around) (outer : List Env) (s : Shared) (H : Hp) (f c' : Addr), Room k (A.deeper (envF (lamF (X.env.qual ++ "<lambda>") params scope (cloFrom X.env.cells scope.names []) c') f s.heap.objs.size)) → PE (ncx CX0 X.prog X.w X.K X.mg X.base N (lamF (X.env.qual ++ "<lambda>") params scope (cloFrom X.env.cells scope.names []) c') f A outer s H E0) body tb)
    (hs : starEach [e] X.env = (false, eval e X.env) :: starEach [] X.env := by rfl) (hs2 : backTo pos (starEach [e] X.env) = (false, eval e X.env) :: backTo pos (starEach [] X.env) := by rfl) (hpl : (backTo pos (starEach [e] X.env)).any (·.1) = false := by rfl)
    (hall : (backToKw pos (keywordEach [⟨some "key", .Lambda params body scope lpos, kp⟩] X.env)).all (·.1.isSome) = true := by rfl) (hnone : (backToKw pos (keywordEach [⟨some "key", .Lambda params body scope lpos, kp⟩] X.env)).any (·.1.isNone) = false := by rfl)
    (hks : (backToKw pos (keywordEach [⟨some "key", .Lambda params body scope lpos, kp⟩] X.env)).filterMap (·.1) = [Str.ofString "key"] := by rfl) :
    PE X (.Call (.Name "min" p) [e] [⟨some "key", .Lambda params body scope lpos, kp⟩] pos) (tMinKey te P N js tb) := by
  refine ⟨fun pins s σ H Q J h => ?_⟩
  refine wpAny_Call_Name_kw (ld_blt J hg hm (by decide +kernel : bootBuiltins "min" = some (.builtin "min")) ?_ (by decide) (by decide))
  have hlam := pe_lam (pos := lpos) (params := params) (body := body) (scope := scope) TB hcode hq hdef hfree
  refine PyProof.Rows.callWith_kw (thn ((pa_cons he pa_nil hs).run pos pins s σ H (fun vs H1 => match vs with
    | [v] => rMinKey P N js tb σ Q v H1
    | _ => False) J h) fun us s1 ⟨vs, H1, J1, r1, q1⟩ => ?_) hs2 hpl hall hnone
  match vs, r1, q1 with
  | [v], r1, q1 =>
    obtain ⟨D, o, kvs, rfl, hD, hn, tF, rest⟩ := q1
    obtain rfl := Vals.ref1 r1
    refine thn ((pk_cons (nm := some "key") (kpos := kp) hlam pk_nil).run pos pins s1 σ H1 (fun zs H2 => match zs with
      | [z] => Same H1 H2 ∧ ∃ f c', z = .ref f ∧ LamAt H2 f c' (X.env.qual ++ "<lambda>") params body scope (cloFrom X.env.cells scope.names [])
      | _ => False) J1 ⟨tF, fun f c' H2 sm lam => ⟨sm, f, c', rfl, lam⟩⟩) fun ws s2 ⟨zs, H2, J2, r2, q2⟩ => ?_
    match zs, r2, q2 with
    | [z], r2, q2 =>
      obtain ⟨sm, f, c', rfl, lam⟩ := q2
      obtain rfl := Vals.ref1 r2
      rw [hks]
      obtain ⟨kf, h1, h2⟩ := rest H2 sm
      exact min_run J2 (sm _ _ hD) hn lam S cp (fun pm cd ctv u => hb _ _ pm cd ctv u) hr hbody h1 h2
end
end SW

set_option Elab.async false
set_option linter.all false
set_option maxRecDepth 100000
set_option maxHeartbeats 2000000
/-! SwMin: min(d, key=lambda x: len(d[x])) over slots; defs whose code object has a table. -/
namespace SW
open PySem PySem.Spec PyProof.Rows
open L2 hiding Same
open LamX (TabB)
open NdefX (NF NScope CellsAt startF envF ncx inv_startN Caps cells_of slotAt)
variable [Nm]
/-- len(d[x]) where x stands in the first slot, d in the second -/
def tLenGet (K : PySem.W.Frag) : TE := fun σ H Q => ∃ D kvs k a xs, σ[1]? = some (some (.ref D)) ∧ σ[0]? = some (some (kV k)) ∧ Rd H D (.dK kvs) ∧ some (V.ref a) = valV kvs k ∧ SqL K H a xs ∧ Q (.int xs.length) H
theorem pe_lenGet {X : Cx} {y r : Str} {p1 p2 p3 p4 p5 : Pos} (hu : X.A.units + 1 < cLine) (h0 : PE X (.Name y p3) (tVar 0)) (h1 : PE X (.Name r p2) (tVar 1)) (hg : Gl X "len") (hm : X.mg "len" = none) (ns : NoSl (.Name y p3))
    (he : starEach [.Subscript (.Name r p2) (.Name y p3) p4] X.env = (false, eval (.Subscript (.Name r p2) (.Name y p3) p4) X.env) :: starEach [] X.env := by rfl) :
    PE X (.Call (.Name "len" p1) [.Subscript (.Name r p2) (.Name y p3) p4] [] p5) (tLenGet X.K) := by
  have raw := pe_callB (pos := p5) (p := p1) call_len_seq hg hm PySem.boot_len (pa_cons (pe_dget (pos := p4) hu h1 h0 ns) pa_nil he) (by decide) (by decide) he rfl
  refine ⟨fun pins s σ H Q J h => raw.run pins s σ H Q J ?_⟩
  obtain ⟨D, kvs, k, a, xs, h1, h2, h3, h4, h5, q⟩ := h
  exact ⟨.ref D, h1, kV k, h2, D, .ref a, rfl, .inl ⟨kvs, k, h3, rfl, h4⟩, a, xs, rfl, .inl h5, q⟩
/-- the first key whose list is the shortest -/
def minK (ks : List (Int × List PyData)) : Nat := argBest (fun i j => decide ((ks.getD i (0, [])).2.length < (ks.getD j (0, [])).2.length)) (ks.length - 1)
theorem argBest_le {bt : Nat → Nat → Bool} : ∀ n, argBest bt n ≤ n
  | 0 => Nat.le_refl _
  | n + 1 => by
    unfold argBest
    split
    · exact Nat.le_refl _
    · exact Nat.le_succ_of_le (argBest_le n)
theorem minK_lt {ks : List (Int × List PyData)} (h : ks ≠ []) : minK ks < ks.length := by
  have h1 := argBest_le (bt := fun i j => decide ((ks.getD i (0, [])).2.length < (ks.getD j (0, [])).2.length)) (ks.length - 1)
  have h2 := List.length_pos_iff.mpr h
  unfold minK
  omega
def lstD (ks : List (Int × List PyData)) : List (Int × PyData) := ks.map fun p => (p.1, .list p.2)
theorem RpD.at_ {H : Hp} : ∀ {kvs : List (Key × V)} {ds : List (PyData × PyData)} {i : Nat} {k : Key} {v : V}, RpD H kvs ds → kvs[i]? = some (k, v) → ∃ d, ds[i]? = some (keyD k, d) ∧ Rp H v d
  | _, _, i, _, _, .nil, e => by simp at e
  | _, _, 0, _, _, .cons (d := d) h _, e => by
    simp at e
    obtain ⟨rfl, rfl⟩ := e
    exact ⟨d, rfl, h⟩
  | _, _, i + 1, k, v, .cons _ r, e => by
    obtain ⟨d, h1, h2⟩ := RpD.at_ (i := i) r (by simpa using e)
    exact ⟨d, by simpa using h1, h2⟩
theorem valV_at : ∀ {kvs : List (Key × V)} {i : Nat} {k : Key} {v : V}, (kvs.map Prod.fst).Nodup → kvs[i]? = some (k, v) → valV kvs k = some v
  | [], i, _, _, _, e => by simp at e
  | p :: r, 0, k, v, _, e => by
    simp at e
    subst e
    exact valV_pos rfl
  | p :: r, i + 1, k, v, nd, e => by
    have e' : r[i]? = some (k, v) := by simpa using e
    rw [List.map_cons, List.nodup_cons] at nd
    rw [valV_neg (fun z => nd.1 (List.mem_map.mpr ⟨_, List.mem_of_getElem? e', z.symm⟩))]
    exact valV_at nd.2 e'
section
variable {I : Type} {X : I → Cx} {H0 : Hp} {ρ : Env1} {e : Expr}
variable {P : Program} {w : World} {K : PySem.W.Frag} {mg : Str → Option Value} {base : Heap} {k : Nat}
theorem ev_minLen {ks : List (Int × List PyData)} {j : Nat} {y r : Str} {c P' : Addr} {params : Arguments} {scope : Scope} {lpos kp p pos p1 p2 p3 p4 p5 pr : Pos} (hA : ∀ i, At (X i) P w K mg base (k + 2)) (hm : mg "min" = none) (hl : mg "len" = none)
    (hj : ρ[j]? = some (some (.dat (dctI (lstD ks))))) (hne : ks ≠ []) (nd : (ks.map Prod.fst).Nodup) (tab : TabF H0 P') (TB : TabB base mg c P') (hcode : ∀ i, (X i).env.code = .ref c) (hq : ∀ i, Nm.nm lpos.line lpos.col = (X i).env.qual ++ "<lambda>")
    (S : NScope [y, r] [y] [r] scope) (hfree : ∀ i, ∀ z ∈ scope.names, z.2 = .free → (X i).env.scope.names.lookup z.1 = some .cell ∨ (X i).env.scope.names.lookup z.1 = some .free) (hfr : ∀ z ∈ [r], (z, NameKind.free) ∈ scope.names) (hN : ∀ i, (X i).N[j]? = some r)
    (hpv : ∀ i, PE (X i) (.Name r pr) (tVar j)) (hb : ∀ (q : Str) (cl : List (Str × Addr)) (pm cd ctv u : Value), bindArgs (PySem.W.kla_fn "<lambda>" q params (.Call (.Name "len" p1) [.Subscript (.Name r p2) (.Name y p3) p4] [] p5) scope cl pm cd ctv) ⟨[u], []⟩ = pure [(y, u)])
    (hd : ∀ i, defaultsOf params (X i).env = ([], [])) (hlen : scope.names.lookup ("len" : Str) = some .globalImplicit) (hyr : scope.names.lookup y = some .local) (hrr : scope.names.lookup r = some .free) (y1 : (y == ("__debug__" : Str)) = false := by decide) (y2 : (y == ("__classdict__" : Str)) = false := by decide) (r1 : (r == ("__debug__" : Str)) = false := by decide) (r2 : (r == ("__classdict__" : Str)) = false := by decide)
    (hg : ∀ i, Gl (X i) "min" := by intro _; rfl) (hs : ∀ i, starEach [.Name r pr] (X i).env = (false, eval (.Name r pr) (X i).env) :: starEach [] (X i).env := by intro _; rfl) :
    EV X H0 ρ (.Call (.Name "min" p) [.Name r pr] [⟨some "key", .Lambda params (.Call (.Name "len" p1) [.Subscript (.Name r p2) (.Name y p3) p4] [] p5) scope lpos, kp⟩] pos) (.int (ks.getD (minK ks) (0, [])).1) := .mk fun σ H s rs => by
  obtain ⟨v, h1, h2⟩ := rs.get hj
  unfold dctI at h2
  cases h2 with
  | @dct D kvs _ hr rr =>
    refine dp_lock hr fun H' o hD e' tb => ?_
    have rr' := rr.swapF hr (.inr ⟨o, hD⟩) e'
    have len : kvs.length = ks.length := by rw [rr'.length]; unfold lstD; rw [List.length_map, List.length_map]
    intro H1 Q s1 q
    have cap : ∀ i, (X i).Ok → Caps (X i) (cloFrom (X i).env.cells scope.names []) [r] [j] := fun i ok => Caps.made ok (hfree i) hfr (by rw [List.map_singleton, List.map_singleton, hN i])
    refine ⟨_, fun i => by
      have a := hA i
      exact pe_minKey (tb := tLenGet K) (N := [y, r]) (js := [j]) (fr := [r]) (x := y) (hg i) (by rw [a.mg]; exact hm) (hpv i) (by rw [a.base, a.mg]; exact TB) (hcode i) (hq i) (hd i) (fun ok z hz e => (hfree i z hz e).elim (fun k => ok.has _ (.inl k)) fun k => ok.has _ (.inr k)) S (cap i) hb a.room
        (fun A outer s H f c' hr2 => by
          have z := pe_lenGet (X := ncx CX0 (X i).prog (X i).w (X i).K (X i).mg (X i).base [y, r] (lamF ((X i).env.qual ++ "<lambda>") params scope (cloFrom (X i).env.cells scope.names []) c') f A outer s H E0) (y := y) (r := r) (p1 := p1) (p2 := p2) (p3 := p3) (p4 := p4) (p5 := p5) (hu_of hr2) (pv 0 rfl (Or.inl hyr) y1 y2) (pv 1 rfl (Or.inr (Or.inr hrr)) r1 r2) hlen (by show (X i).mg "len" = none; rw [a.mg]; exact hl) (fun _ _ => rfl)
          rw [show (ncx CX0 (X i).prog (X i).w (X i).K (X i).mg (X i).base [y, r] (lamF ((X i).env.qual ++ "<lambda>") params scope (cloFrom (X i).env.cells scope.names []) c') f A outer s H E0).K = K from a.K] at z
          exact z) (hs i) (by rw [hs i] <;> rfl) (by rw [hs i] <;> rfl), ?_⟩
    have nd' : (kvs.map Prod.fst).Nodup := by
      have z := rr'.keys
      rw [z]
      have z2 : ((ks.map Prod.fst).map fun i : Int => (Sum.inl i : Key)).Nodup := List.pairwise_map.mpr (nd.imp fun h e => h (Sum.inl.inj e))
      unfold lstD
      rw [List.map_map]
      rw [List.map_map] at z2
      exact z2
    refine ⟨.ref D, h1, D, o, kvs, rfl, s1 _ _ hD, by rw [len]; exact List.length_pos_iff.mpr hne, s1.tab _ (tb _ (s.tab _ tab)), fun H2 s2 => ?_⟩
    have rr2 := (rr'.mono s1).mono s2
    have hD2 := s2 _ _ (s1 _ _ hD)
    have at_ : ∀ (i : Nat) kk v, kvs[i]? = some (kk, v) → ∃ n xs, ks[i]? = some (n, xs) ∧ kk = .inl n ∧ ∃ a vs, v = .ref a ∧ H2 a = some (.lst vs) ∧ vs.length = xs.length := fun i kk v e => by
      obtain ⟨d, e1, e2⟩ := rr2.at_ e
      unfold lstD at e1
      rw [List.map_map, List.getElem?_map] at e1
      cases e3 : ks[i]? with
      | none => rw [e3] at e1; cases e1
      | some pr =>
        rw [e3] at e1
        have e4 := Option.some.inj e1
        injection e4 with e5 e6
        subst e6
        cases e2 with
        | lst ha t => exact ⟨pr.1, pr.2, rfl, keyD_int e5.symm, _, _, rfl, ha, t.length⟩
    refine ⟨fun i => ((ks.getD i (0, [])).2.length : Int), fun i kk v e Q' hQ' => ?_, fun kk v e => ?_⟩
    · obtain ⟨n, xs, e1, e2, a, vs, e3, e4, e5⟩ := at_ i kk v e
      subst e3
      refine ⟨D, kvs, kk, a, vs, ?_, rfl, .inr ⟨o, hD2⟩, (valV_at nd' e).symm, SqL.of e4, ?_⟩
      · show (startF [y, r] [kV kk] [slotAt σ j])[1]? = _
        rw [NdefX.slotAt_of h1] <;> rfl
      · have z : ((ks.getD i (0, [])).2.length : Int) = (vs.length : Int) := by rw [e5, List.getD_eq_getElem?_getD, e1] <;> rfl
        rw [← z]
        exact hQ'
    · have eb : argBest (fun i j => decide (((ks.getD i (0, [])).2.length : Int) < ((ks.getD j (0, [])).2.length : Int))) (kvs.length - 1) = minK ks := by
        unfold minK
        rw [len]
        congr 1
        funext a b
        exact decide_eq_decide.mpr Int.ofNat_lt
      rw [eb] at e
      obtain ⟨n, xs, e1, e2, _⟩ := at_ _ kk v e
      subst e2
      have z : ks.getD (minK ks) (0, []) = (n, xs) := by rw [List.getD_eq_getElem?_getD, e1] <;> rfl
      rw [z] at q
      exact q _ H2 _ (s1.trans s2 |> fun _ => s2) (.int n) rfl
end
end SW

set_option Elab.async false
set_option linter.all false
set_option maxRecDepth 100000
set_option maxHeartbeats 2000000
/-! SwDisp: {**d, k: v}, k new. -/
namespace SW
open PySem PySem.Spec PyProof.Rows
open L2 hiding Same
section
variable {P : Program} {w : World} {K : Type} [DecidableEq K] {knd : PySem.KeyKind P w K} {A : Around} {E : Value → Shared → Prop} {s : Shared} {d a : Addr}
/-- one more pair, its key new -/
theorem put_fresh {kvs : List (K × Value)} {k : K} {key v : Value} {Q : Unit → Shared → Prop} (hkey : knd.is k key = true) (D : s.heap.DictOf knd d kvs) (new : k ∉ kvs.map (·.1)) (small : kvs.length ≤ sizeLine)
    (q : ∀ h', h'.DictOf knd d (kvs ++ [(k, v)]) → Heap.SameBut d s.heap h' → Q () { s with heap := h' }) : wpAny (model P w) A (dictPut d (knd.hash k) key v) Q E s := by
  obtain ⟨o, es, ep, ho, hc, hd, ks, ps, nd⟩ := D
  have sz : es.size ≤ sizeLine := by
    have := ps.length
    rw [Array.length_toList] at this
    omega
  have no : (es.findIdx? fun e => knd.is k e.key) = none := by
    have e1 := ps.findIdx k
    obtain ⟨l⟩ := es
    have e2 : (l.findIdx? fun e => knd.is k e.key) = kvs.findIdx? fun kv => decide (kv.1 = k) := e1
    have e3 : (kvs.findIdx? fun kv => decide (kv.1 = k)) = none := List.findIdx?_eq_none_iff.mpr fun kv hkv => decide_eq_false fun z => new (List.mem_map.mpr ⟨kv, hkv, z⟩)
    rw [e3] at e2
    simpa using e2
  unfold dictPut
  refine wpAny_bind (wpAny_dictFind_of hkey ho hd ks ?_)
  rw [no]
  refine wpAny_updateDictKeys (hz := sz) ho hd (q _ ⟨_, _, ep + 1, Heap.get?_update_self _ ho (Obj.isFreed_of_dict (Obj.data_mapDictKeys hd _)), hc.mapDictKeys _, Obj.data_mapDictKeys hd _, ks.push hkey _, ?_, ?_⟩ (Heap.SameBut.update ..))
  · have z := ps.append hkey (knd.hash k) v
    obtain ⟨l⟩ := es
    simpa using z
  · rw [List.map_append, List.nodup_append]
    exact ⟨nd, by simp, fun x hx y hy => by
      rw [List.mem_singleton.mp hy]
      intro z
      subst z
      exact new hx⟩
/-- no key of these is an address -/
def Plain (vs : List (Key × Value)) : Prop := True
theorem merge_fresh {kvs more : List (K × Value)} {Q : Unit → Shared → Prop} (ne : d ≠ a) (ns : (a == sysModules) = false) (D : s.heap.DictOf knd d kvs) (M : s.heap.DictOf knd a more) (plain : ∀ k key, knd.is k key = true → ∀ x, key ≠ .ref x) (nd : ((kvs ++ more).map (·.1)).Nodup) (small : kvs.length + more.length ≤ sizeLine)
    (q : ∀ h', h'.DictOf knd d (kvs ++ more) → Heap.SameBut d s.heap h' → Q () { s with heap := h' }) : wpAny (model P w) A (mergeMapping d (.ref a) false) Q E s := by
  obtain ⟨od, esd, epd, hod, hcd, hdd, ksd, psd, ndd⟩ := id D
  obtain ⟨oa, esa, epa, hoa, hca, hda, ksa, psa, nda⟩ := id M
  have len : more.length = esa.size := by rw [← psa.length, Array.length_toList]
  unfold mergeMapping
  refine wpAny_bind (wpAny_isInstance M.typeIs isSubtype_dict_dict ?_)
  rw [if_pos rfl]
  refine wpAny_bind (wpAny_specialOf M.typeIs F.slot_dict_iter.lookup (wpAny_bind (wpAny_pure ?_)))
  rw [beq_self_eq_true]
  dsimp only
  rw [if_neg (by rw [ns]; exact Bool.false_ne_true)]
  have body : wpAny (model P w) A (do
      let l ← dictEntries a
      let epoch ← dictEpoch a
      forIn (List.range l.size) PUnit.unit fun i (_ : PUnit) => (do
        let l' ← dictEntries a
        match l'[i]? with
        | some e => do
          holding [e.key, e.val] (dictPut d e.hash e.key e.val)
          let ep' ← dictEpoch a
          if (ep' != epoch) = true then do
            (unsupported "dict.changed-during-merge" : Sem PUnit)
            pure (ForInStep.yield PUnit.unit)
          else pure (ForInStep.yield PUnit.unit)
        | _ => do
          (unsupported "dict.changed-during-merge" : Sem PUnit)
          pure (ForInStep.yield PUnit.unit) : Sem (ForInStep PUnit))
      pure ()) Q E s := by
    refine wpAny_bind (wpAny_dictEntries hoa hda ?_)
    refine wpAny_bind (wpAny_dictEpoch hoa hda ?_)
    refine wpAny_bind (wpAny_forIn_list _ (fun rest _ s' => ∃ h' i, s' = { s with heap := h' } ∧ rest = (List.range esa.size).drop i ∧ i ≤ esa.size ∧ h'.DictOf knd d (kvs ++ more.take i) ∧ Heap.SameBut d s.heap h') _ ?_ ?_ _ _ ⟨s.heap, 0, rfl, rfl, Nat.zero_le _, by simpa using D, Heap.SameBut.refl _ _⟩)
    · rintro x rest b s' ⟨h', i, rfl, er, hi, D', sb⟩
      have lt : i < esa.size := by
        rcases Nat.lt_or_ge i esa.size with z | z
        · exact z
        · rw [List.drop_eq_nil_of_le (by rw [List.length_range]; exact z)] at er
          cases er
      rw [List.drop_eq_getElem_cons (by rw [List.length_range]; exact lt), List.getElem_range] at er
      injection er with e1 e2
      subst e1
      have hoa' : h'.get? a = some oa := (sb.2 a ne.symm).trans hoa
      refine wpAny_bind (wpAny_dictEntries (s := { s with heap := h' }) hoa' hda ?_)
      rw [Array.getElem?_eq_getElem lt]
      obtain ⟨⟨k, v⟩, hkv⟩ : ∃ kv, more[x]? = some kv := ⟨_, List.getElem?_eq_getElem (by rw [len]; exact lt)⟩
      obtain ⟨hkey, hval⟩ := psa.get? (e := esa[x]) (by simp [lt]) hkv
      obtain ⟨k', hkey', hhash⟩ := ksa esa[x] (Array.getElem_mem lt)
      obtain rfl : k' = k := knd.inj _ _ _ hkey' hkey
      show wpAny _ _ (holding [esa[x].key, esa[x].val] (dictPut d esa[x].hash esa[x].key esa[x].val) >>= _) _ _ _
      rw [hhash, hval]
      have tk : more.take (x + 1) = more.take x ++ [(k', v)] := by rw [List.take_add_one, hkv] <;> rfl
      have newk : k' ∉ (kvs ++ more.take x).map (·.1) := fun z => by
        have z2 : ((kvs ++ more.take (x + 1) ++ more.drop (x + 1)).map (·.1)).Nodup := by rw [List.append_assoc, List.take_append_drop]; exact nd
        rw [tk, List.map_append, ← List.append_assoc, List.map_append] at z2
        exact (List.nodup_append.mp (List.nodup_append.mp z2).1).2.2 k' z k' (by simp) rfl
      refine wpAny_bind (wpAny_holding (put_fresh (s := { s with heap := h' }) hkey D' newk (by rw [List.length_append, List.length_take]; omega) fun h2 D2 sb2 => ?_))
      refine wpAny_bind (wpAny_dictEpoch (s := { s with heap := h2 }) ((sb2.2 a ne.symm).trans hoa') hda ?_)
      rw [if_neg (by simp)]
      refine wpAny_pure ⟨h2, x + 1, rfl, e2, lt, ?_, sb.trans sb2⟩
      rw [tk, ← List.append_assoc]
      exact D2
    · rintro b s' ⟨h', i, rfl, er, hi, D', sb⟩
      have e : i = esa.size := by
        have z := congrArg List.length er
        rw [List.length_drop, List.length_range] at z
        simp at z
        omega
      subst e
      rw [← len, List.take_length] at D'
      exact wpAny_pure (q h' D' sb)
  refine wpAny_bind (wpAny_dictEntries hod hdd ?_)
  cases emp : esd.isEmpty with
  | false =>
    rw [if_neg (by exact Bool.false_ne_true)]
    exact body
  | true =>
    rw [if_pos rfl]
    refine wpAny_bind (wpAny_dictEntries hoa hda ?_)
    refine wpAny_bind ?_
    rw [← Array.forIn_toList]
    refine wpAny_forIn_list _ (fun rest _ s' => s' = s ∧ ∀ e ∈ rest, e ∈ esa) _ ?_ ?_ _ _ ⟨rfl, fun e he => by simpa using he⟩
    · rintro e rest b s' ⟨rfl, all⟩
      obtain ⟨k, hk, _⟩ := ksa e (all e List.mem_cons_self)
      have nr := plain k e.key hk
      cases hkey : e.key with
      | ref x => exact absurd hkey (nr x)
      | _ => exact wpAny_pure ⟨rfl, fun e he => all e (List.mem_cons_of_mem _ he)⟩
    · rintro b s' ⟨rfl, _⟩
      exact body
/-- {**m, k: v} -/
theorem disp_star {m vv : Sem Value} {kv : Sem Value} {kvs : List (K × Value)} {k : K} {Q : Value → Shared → Prop} (kk vx : Value) (ns : (a == sysModules) = false) (M : s.heap.DictOf knd a kvs) (plain : ∀ k key, knd.is k key = true → ∀ x, key ≠ .ref x)
    (hm : ∀ (s' : Shared) (R : Value → Shared → Prop), (∀ b o, s.heap.get? b = some o → s'.heap.get? b = some o) → R (.ref a) s' → wpAny (model P w) A m R E s')
    (hk : ∀ (s' : Shared) (R : Value → Shared → Prop), (∀ b o, s.heap.get? b = some o → s'.heap.get? b = some o) → R kk s' → wpAny (model P w) A kv R E s') (hv : ∀ (s' : Shared) (R : Value → Shared → Prop), (∀ b o, s.heap.get? b = some o → s'.heap.get? b = some o) → R vx s' → wpAny (model P w) A vv R E s')
    (key : knd.is k kk = true) (new : k ∉ kvs.map (·.1)) (small : kvs.length + 1 ≤ sizeLine) (big : sysModules < s.heap.objs.size)
    (q : ∀ h' t', (∀ b o, s.heap.get? b = some o → h'.get? b = some o) → h'.DictOf knd s.heap.objs.size (kvs ++ [(k, vx)]) → Q (.ref s.heap.objs.size) { s with heap := h', toks := t' }) :
    wpAny (model P w) A (dictDisplay [(none, m), (some kv, vv)]) Q E s := by
  unfold dictDisplay
  dsimp only
  simp only [List.forIn_cons, List.forIn_nil]
  have aS : a ≠ s.heap.objs.size := by
    obtain ⟨o, es, ep, ho, _⟩ := M
    exact Nat.ne_of_lt (Heap.lt_size ho)
  refine wpAny_bind (wpAny_bind (wpAny_bind ?_))
  refine (show wpAny (model P w) A (pure none : Sem (Option Addr)) _ E s from wpAny_pure ?_)
  dsimp only
  refine wpAny_bind (wpAny_alloc ?_)
  have k0 : ∀ b o, s.heap.get? b = some o → (s.heap.push { cls := .type "dict", data := .dict #[] }).get? b = some o := fun b o e => Heap.get?_push_of_some _ e
  refine wpAny_bind (wpAny_holding (hm _ _ k0 ?_))
  have D0 : (s.heap.push { cls := .type "dict", data := .dict #[] }).DictOf knd s.heap.objs.size [] := ⟨_, #[], 0, Heap.get?_push_size _ rfl, ⟨rfl, rfl, rfl⟩, rfl, fun e he => by simp at he, .nil, .nil⟩
  have M0 : (s.heap.push { cls := .type "dict", data := .dict #[] }).DictOf knd a kvs := by
    obtain ⟨o, es, ep, ho, r⟩ := M
    exact ⟨o, es, ep, k0 _ _ ho, r⟩
  have nd : (kvs.map (·.1)).Nodup := by
    obtain ⟨o, es, ep, ho, _, _, _, _, r⟩ := M
    exact r
  refine wpAny_bind (wpAny_onRaise (wpAny_tryCatch (wpAny_onRaise (wpAny_holding (merge_fresh (s := { s with heap := s.heap.push { cls := .type "dict", data := .dict #[] } }) aS.symm ns D0 M0 plain (by simpa using nd) (by simp only [List.length_nil]; omega) fun h1 D1 sb1 => wpAny_pure ?_)))))
  dsimp only
  rw [List.nil_append] at D1
  have k1 : ∀ b o, s.heap.get? b = some o → h1.get? b = some o := fun b o e => (sb1.2 b (Nat.ne_of_lt (Heap.lt_size e))).trans (k0 b o e)
  refine wpAny_bind ?_
  rw [if_neg (by simp)]
  refine wpAny_pure (wpAny_pure ?_)
  dsimp only
  refine wpAny_bind ?_
  rw [if_neg (by simp)]
  refine wpAny_bind (wpAny_holding (wpAny_subDict (knd := knd) (by simp) (evalPairs_cons (hk _ _ (fun b o e => Heap.get?_push_of_some _ (k1 b o e)) (hv _ _ (fun b o e => Heap.get?_push_of_some _ (k1 b o e)) (evalPairs_nil ⟨[(k, vx)], ⟨key, rfl, trivial⟩, ?_, fun h2 D2 sb2 => ?_⟩))))))
  · exact ⟨_, #[], 0, Heap.get?_push_size _ rfl, ⟨rfl, rfl, rfl⟩, rfl, fun e he => by simp at he, .nil, .nil⟩
  have dlt : s.heap.objs.size < h1.objs.size := by
    obtain ⟨o, es, ep, ho, _⟩ := D1
    exact Heap.lt_size ho
  have D2' : h2.DictOf knd h1.objs.size [(k, vx)] := D2
  have D1' : h2.DictOf knd s.heap.objs.size kvs := by
    obtain ⟨o, es, ep, ho, r⟩ := D1
    exact ⟨o, es, ep, (sb2.2 _ (Nat.ne_of_lt dlt)).trans (Heap.get?_push_of_some _ ho), r⟩
  have nsub : (h1.objs.size == sysModules) = false := by
    rw [beq_eq_false_iff_ne]
    exact Nat.ne_of_gt (Nat.lt_trans big dlt)
  refine wpAny_bind (wpAny_onRaise (wpAny_holding (merge_fresh (s := { s with heap := h2, toks := _ }) (Nat.ne_of_lt dlt) nsub D1' D2' plain (by
    rw [List.map_append, List.nodup_append]
    exact ⟨nd, by simp, fun x hx y hy => by
      have e : y = k := by simpa using hy
      subst e
      intro z
      subst z
      exact new hx⟩) (by simpa using small) fun h3 D3 sb3 => wpAny_pure ?_)))
  dsimp only
  refine wpAny_pure (q h3 _ (fun b o e => ?_) D3)
  have hb : b < s.heap.objs.size := Heap.lt_size e
  exact (sb3.2 b (Nat.ne_of_lt hb)).trans ((sb2.2 b (Nat.ne_of_lt (Nat.lt_trans hb dlt))).trans (Heap.get?_push_of_some _ (k1 b o e)))
end
section
variable {X : Cx} {pins : List (Addr × Obj)} {σ : L2.St} {H : Hp} {s : Shared}
/-- a name is read, in this heap and in all that keep it -/
theorem rd_name {i : Nat} {x : Str} {v : V} {pos : Pos} (J : Inv X pins σ H s) (hN : X.N[i]? = some x) (hv : Vis X.env.scope x) (e : σ[i]? = some (some v)) (hd : (x == ("__debug__" : Str)) = false) (hcd : (x == ("__classdict__" : Str)) = false) :
    ∃ u, RelV v u ∧ ∀ (s' : Shared) (R : Value → Shared → Prop) (E : Value → Shared → Prop), (∀ b o, s.heap.get? b = some o → s'.heap.get? b = some o) → R u s' → wpAny (model X.prog X.w) X.A (eval (.Name x pos) X.env) R E s' := by
  obtain ⟨m, hn, hl⟩ := J.loc
  obtain ⟨u, r, l⟩ := hl i x v hN e hv
  refine ⟨u, r, fun s' R E kept q => ?_⟩
  rcases l with ⟨hk, hm⟩ | ⟨hk, c, hc, o, ho, hcell⟩
  · exact wpAny_Name (wpAny_loadName_local J.ok.kind hk (hn.keeps kept) hm q) hd
  · rcases hk with hk | hk
    · exact wpAny_Name (wpAny_loadName_cell J.ok.kind hk hc ⟨o, kept _ _ ho, hcell⟩ q) hd
    · exact wpAny_Name (wpAny_loadName_free J.ok.kind hk hc ⟨o, kept _ _ ho, hcell⟩ q hcd) hd
/-- {**m, k: v} of names -/
def tStar (im ik iv : Nat) : TE := fun σ H Q => ∃ a kvs n vv, σ[im]? = some (some (.ref a)) ∧ Rd H a (.dK kvs) ∧ σ[ik]? = some (some (.int n)) ∧ σ[iv]? = some (some vv) ∧ (Sum.inl n : Key) ∉ kvs.map Prod.fst ∧ kvs.length + 1 ≤ 1000 ∧ ∀ D, H D = none → Q (.ref D) (upd H D (.dK (kvs ++ [(.inl n, vv)])))
theorem mix_plain {P : Program} {w : World} : ∀ (k : Key) (key : Value), (mixKind P w).is k key = true → ∀ x, key ≠ .ref x := fun k key h x z => by
  rcases keyIs_shape (show keyIs k key = true from h) with ⟨i, t, _, e⟩ | ⟨y, t, _, e⟩ <;> rw [e] at z <;> cases z
theorem pe_star {im ik iv : Nat} {m k v : Str} {p1 p2 p3 pos : Pos} (h1 : X.N[im]? = some m) (h2 : X.N[ik]? = some k) (h3 : X.N[iv]? = some v) (v1 : Vis X.env.scope m) (v2 : Vis X.env.scope k) (v3 : Vis X.env.scope v)
    (d1 : (m == ("__debug__" : Str)) = false) (c1 : (m == ("__classdict__" : Str)) = false) (d2 : (k == ("__debug__" : Str)) = false) (c2 : (k == ("__classdict__" : Str)) = false) (d3 : (v == ("__debug__" : Str)) = false) (c3 : (v == ("__classdict__" : Str)) = false) :
    PE X (.Dict [none, some (.Name k p1)] [.Name m p2, .Name v p3] pos) (tStar im ik iv) := by
  refine ⟨fun pins s σ H Q J h => ?_⟩
  obtain ⟨a, kvs, n, vv, e1, hr, e2, e3, new, small, q⟩ := h
  obtain ⟨u1, r1, g1⟩ := rd_name (pos := p2) J h1 v1 e1 d1 c1
  obtain ⟨u2, r2, g2⟩ := rd_name (pos := p1) J h2 v2 e2 d2 c2
  obtain ⟨u3, r3, g3⟩ := rd_name (pos := p3) J h3 v3 e3 d3 c3
  obtain rfl : u1 = Value.ref a := r1
  obtain ⟨t, rfl⟩ : ∃ t, u2 = Value.int n t := r2
  obtain ⟨_, ns, vs, kv, D⟩ := dk_rd J.hok hr
  have small' : kvs.length + 1 ≤ sizeLine := Nat.le_of_lt (small1000 small)
  have len : kvs.length = vs.length := Paired.length kv
  have big : sysModules < s.heap.objs.size := J.big
  rw [arm_eval_Dict]
  refine wpAny_bind (wpAny_standAt ?_)
  refine disp_star (K := Key) (knd := mixKind X.prog X.w) (kvs := vs) (k := .inl n) (.int n t) u3 ns D mix_plain (fun s' R kept z => wpAny_bind (g1 s' _ _ kept (wpAny_bind (wpAny_standAt (wpAny_pure z))))) (fun s' R kept z => g2 s' _ _ kept z) (fun s' R kept z => wpAny_bind (g3 s' _ _ kept (wpAny_bind (wpAny_standAt (wpAny_pure z))))) (mixKind_int X.prog X.w n t) (fun z => new (by rw [kv.keys]; exact z)) (by rw [← len]; exact small') big fun h' t' kept D' => ?_
  refine ⟨.ref s.heap.objs.size, _, J.laid (o := .dK (kvs ++ [(.inl n, vv)])) (t' := t') kept (Nat.le_refl _) ⟨by rw [List.length_append, List.length_singleton]; exact small', by rw [beq_eq_false_iff_ne]; exact Nat.ne_of_gt big, _, Paired.snoc kv ⟨rfl, r3⟩, D'⟩, rfl, q _ (J.hok.fresh (Nat.le_refl _))⟩
end
section
variable [Nm]
variable {I : Type} {X : I → Cx} {H0 : Hp} {ρ : Env1} {e : Expr}
/-- {**m, k: v}, k new -/
theorem ev_star {ks : List (Int × PyData)} {n : Int} {d : PyData} {im ik iv : Nat} {m k v : Str} {p1 p2 p3 pos : Pos} (h1 : ρ[im]? = some (some (.dat (dctI ks)))) (h2 : ρ[ik]? = some (some (.dat (.int n)))) (h3 : ρ[iv]? = some (some (.dat d))) (new : n ∉ ks.map Prod.fst) (small : ks.length + 1 ≤ 1000)
    (n1 : ∀ i, (X i).N[im]? = some m := by intro _; rfl) (n2 : ∀ i, (X i).N[ik]? = some k := by intro _; rfl) (n3 : ∀ i, (X i).N[iv]? = some v := by intro _; rfl) (v1 : ∀ i, Vis (X i).env.scope m := by intro _; first | exact Or.inl rfl | exact Or.inr (Or.inl rfl)) (v2 : ∀ i, Vis (X i).env.scope k := by intro _; first | exact Or.inl rfl | exact Or.inr (Or.inl rfl)) (v3 : ∀ i, Vis (X i).env.scope v := by intro _; first | exact Or.inl rfl | exact Or.inr (Or.inl rfl))
    (d1 : (m == ("__debug__" : Str)) = false := by decide) (c1 : (m == ("__classdict__" : Str)) = false := by decide) (d2 : (k == ("__debug__" : Str)) = false := by decide) (c2 : (k == ("__classdict__" : Str)) = false := by decide) (d3 : (v == ("__debug__" : Str)) = false := by decide) (c3 : (v == ("__classdict__" : Str)) = false := by decide) :
    EV X H0 ρ (.Dict [none, some (.Name k p1)] [.Name m p2, .Name v p3] pos) (dctI (ks ++ [(n, d)])) := .mk fun σ H s r H1 Q s1 q => by
  obtain ⟨u1, e1, r1⟩ := r.get h1
  obtain ⟨u2, e2, r2⟩ := r.get h2
  obtain ⟨u3, e3, r3⟩ := r.get h3
  cases r2
  unfold dctI at r1
  cases r1 with
  | @dct a kvs _ hr rr =>
    have hr1 : Rd H1 a (.dK kvs) := hr.imp (fun q => s1 _ _ q) fun ⟨o, q⟩ => ⟨o, s1 _ _ q⟩
    have len : kvs.length = ks.length := by rw [rr.length, List.length_map]
    refine ⟨_, fun i => pe_star (n1 i) (n2 i) (n3 i) (v1 i) (v2 i) (v3 i) d1 c1 d2 c2 d3 c3, a, kvs, n, u3, e1, hr1, e2, e3, fun z => ?_, by rw [len]; exact small, fun D hD => q _ _ _ (same_upd hD) (.dct (.inl upd_same) ?_) rfl⟩
    · rw [rr.keys] at z
      obtain ⟨p, hp, e⟩ := List.mem_map.mp z
      exact new (List.mem_map.mpr ⟨p, hp, Sum.inl.inj e⟩)
    · rw [List.map_append]
      exact ((rr.mono s1).mono (same_upd hD)).append (k := .inl n) ((r3.mono s1).mono (same_upd hD))
end
end SW

set_option Elab.async false
set_option linter.all false
set_option maxRecDepth 100000
set_option maxHeartbeats 2000000
/-! SwMore: any, {}, name op= e, [x] * n, xs[i] read as a value. -/
namespace SW
open PySem PySem.Spec PyProof.Rows
open L2 hiding Same
variable [Nm]
/-- xs[i] of a list, i not negative -/
def rGetL (K : PySem.W.Frag) : V → V → Hp → VK → Prop := fun o i H Q => ∃ (p : Addr) (xs : List V) (j : Nat) (v : V), o = .ref p ∧ i = .int (j : Int) ∧ SqL K H p xs ∧ xs[j]? = some v ∧ Q v H
theorem get_list {X : Cx} : PGet X (rGetL X.K) := by
  intro pins s σ H o i ov iv Q J ro ri h
  obtain ⟨p, xs, j, v, rfl, rfl, hq, he, q⟩ := h
  cases ro
  obtain ⟨t, rfl⟩ := ri
  obtain ⟨its, r, pl, hz⟩ := J.list hq
  obtain ⟨w, ew, rw'⟩ := r.get he
  have hl := r.length
  have hn := line63
  have lt : j < xs.length := (List.getElem?_eq_some_iff.mp he).1
  exact wpAny_getItem_list pl.isList (by omega) (by omega) (by simpa using ew) ⟨v, H, J, rw', q⟩
theorem RpA.rep {H : Hp} {vs : List V} {ds : List PyData} (t : RpA H vs ds) : ∀ m, RpA H (List.replicate m vs).flatten (List.replicate m ds).flatten
  | 0 => .nil
  | m + 1 => by
    rw [List.replicate_succ, List.replicate_succ, List.flatten_cons, List.flatten_cons]
    exact t.append (t.rep m)
section
variable {I : Type} {X : I → Cx} {H0 : Hp} {ρ : Env1} {tg e a b c : Expr} {es rest : List Expr} {pos : Pos}
variable {P : Program} {w : World} {K : PySem.W.Frag} {mg : Str → Option Value} {base : Heap} {k : Nat} {x : Str} {p : Pos} {ps : List Str} {D : Ends} {sts : List Stmt}
theorem ev_any {bs : List Bool} (hA : ∀ i, At (X i) P w K mg base k) (hm : mg "any" = none) (h : EV X H0 ρ e (.list (bs.map PyData.bool))) (hg : ∀ i, Gl (X i) "any" := by intro _; rfl) (ns : ∀ i, starEach (e :: []) (X i).env = (false, eval e (X i).env) :: starEach [] (X i).env := by intro _; rfl) : EV X H0 ρ (.Call (.Name "any" p) [e] [] pos) (.bool (bs.any id)) := .mk fun σ H s r =>
  dp_callB hA (fun i => (hA i).K ▸ cr_any (X := X i) (hA i).calm) hm (by decide +kernel) (da1 (h σ H s r) ns) (fun _ ⟨d, e1, e2⟩ => by
    rw [e1, e2]
    intro vs H Q r q
    obtain ⟨v, rfl, rv⟩ := r.one
    cases rv with
    | lst h t => rw [t.bls_inv] at h; exact ⟨_, bs, rfl, SqL.of h, q _ H _ (Same.refl _) (.bl _) rfl⟩) hg (by decide) (by decide) ns (fun _ => rfl)
/-- {} -/
theorem ev_dict0 : EV X H0 ρ (.Dict [] [] pos) (dctI []) := .mk fun σ H s r H1 Q s1 q => ⟨_, fun _ => pe_dnewK, fun D hD => q _ _ _ (same_upd hD) (.dct (.inl upd_same) .nil) rfl⟩
/-- x += e, ints -/
theorem ws_augAdd {i : Nat} {y : Str} {m n : Int} {pos' : Pos} (h0 : ρ[i]? = some (some (.dat (.int m)))) (h : EV X H0 ρ e (.int n)) {N : List Str} {sc : Scope} (S : Sc X N sc) (q : WS X H0 (ρ.set i (some (.dat (.int (m + n))))) sts D) (hi : ∀ i', (X i').N[i]? = some y := by intro _; rfl) (hx : ∀ i', Loc (X i').env.scope y := by intro _; exact Or.inl rfl)
    (hf : ∀ i', (X i').fn y = true ∨ (X i').env.scope.names.lookup y = some .local := by intro _; first | exact Or.inl rfl | exact Or.inr rfl) : WS X H0 ρ (.AugAssign (.Name y pos') .Add e pos :: sts) D := .mk fun σ H s r => by
  obtain ⟨v, e1, r1⟩ := r.get h0
  cases r1
  exact wb_cons (fun i' => ps_aug (S.ndx i') (hi i') (hx i') (pe_u i') ip_add (hf i')) ⟨_, e1, h σ H s r H _ (Same.refl _) fun v' H2 d s2 r2 e2 => by
    subst e2
    cases r2
    exact ⟨m, n, rfl, rfl, q.run _ H2 (s.trans s2) ((r.mono s2).set (.int _))⟩⟩
/-- [x, ..] * n -/
theorem ev_rep {ds : List PyData} {n : Int} (ha : EV X H0 ρ a (.list ds)) (hb : EV X H0 ρ b (.int n)) (hn : -1000 ≤ n ∧ n ≤ 1000) (hz : ds.length * n.toNat ≤ 1000) : EV X H0 ρ (.BinOp a .Mult b pos) (.list (List.replicate n.toNat ds).flatten) := .mk fun σ H s r =>
  de_op2 (fun _ => op_rep) (fun v w' H Q r1 r2 q => by
    cases r2
    cases r1 with
    | lst h t =>
      refine ⟨_, n, _, rfl, rfl, h, by omega, by omega, by rw [t.length]; exact Nat.le_of_lt (small1000 hz), fun p hp => q _ _ (same_upd hp) (.lst upd_same ((t.rep _).mono (same_upd hp)))⟩) (ha σ H s r) (hb σ H s r)
end
end SW

set_option Elab.async false
set_option linter.all false
set_option maxRecDepth 100000
set_option maxHeartbeats 2000000
/-! SwX: a def's promise by a thing x that its arguments spell; tables of code objects handed through. -/
namespace SW
open PySem
open L2 hiding Same
variable [Nm]
/-- the arguments spell some x that is allowed: the answer is out x -/
def spX {α : Type} (tab : List Addr) (enc : α → List PyData) (ok : α → Prop) (out : α → PyData) (n : Nat) : Sp := fun vs H Q _ => vs.length = n ∧ (∀ P ∈ tab, TabF H P) ∧ ∃ x, ok x ∧ RpA H vs (enc x) ∧ ∀ v H', Same H H' → Rp H' v (out x) → Q v H'
section
variable {I : Type} {X : I → Cx} {H0 : Hp} {ρ : Env1} {e : Expr} {es : List Expr} {pos : Pos}
variable {P : Program} {w : World} {K : PySem.W.Frag} {mg : Str → Option Value} {base : Heap} {k : Nat} {x : Str} {p : Pos} {ps : List Str}
theorem ev_callX {α : Type} {tab : List Addr} {enc : α → List PyData} {ok : α → Prop} {out : α → PyData} {n : Nat} (hA : ∀ i, At (X i) P w K mg base k) (hf : Fn P w K mg base k x ps (spX tab enc ok out n)) (a : α) (h : ok a) (ha : EL X H0 ρ (e :: es) (enc a)) (hn : (enc a).length = n := by rfl) (ht : ∀ P ∈ tab, TabF H0 P := by intro _ h; cases h)
    (hg : ∀ i, Gl (X i) x := by intro _; rfl) (hdb : (x == ("__debug__" : Str)) = false := by decide) (he : ∀ i, starEach (e :: es) (X i).env = (false, eval e (X i).env) :: starEach es (X i).env := by intro _; rfl) (hpl : ∀ i, (backTo pos (starEach es (X i).env)).any (·.1) = false := by intro _; rfl) :
    EV X H0 ρ (.Call (.Name x p) (e :: es) [] pos) (out a) := .mk fun σ H s r H1 Q s1 q =>
  ue_call (E := E0) hA hf pa_u (ha σ H s r H1 _ s1 fun vs H2 ds s2 rr e1 => by
    subst e1
    exact ⟨by rw [rr.length]; exact hn, fun P hP => s2.tab _ (s1.tab _ (s.tab _ (ht P hP))), a, h, rr, fun v H3 s3 r3 => q v H3 _ (s2.trans s3) r3 rfl⟩) hg hdb he hpl
theorem Df.fnX {α : Type} {st : Stmt} {N : List Str} {tab : List Addr} {enc : α → List PyData} {ok : α → Prop} {out : α → PyData} (D : Df K mg x st ps) (S : FnScope N ps (defScope st)) (hl : ∀ a, ok a → (enc a).length = ps.length)
    (h : ∀ (f : Addr) (cdv : Value) (A : Around) (outer : List Env) (s : Shared) (H1 H0 : Hp) (Q : VK) (a : α), (∀ i, At (bdF P w K mg base N x (defScope st) f cdv A outer s H1 i) P w K mg base k) → Sc (bdF P w K mg base N x (defScope st) f cdv A outer s H1) N (defScope st) → ok a → (∀ P ∈ tab, TabF H0 P) → (∀ v H' d', Same H0 H' → Rp H' v d' → d' = out a → Q v H') →
      WS (bdF P w K mg base N x (defScope st) f cdv A outer s H1) H0 (((enc a).map fun d => some (SD.dat d)) ++ List.replicate (N.length - ps.length) none) (defBody st) { nx := fun _ H' => Q .non H', rt := Q }) : Fn P w K mg base (k + 1) x ps (spX tab enc ok out ps.length) := by
  refine D.fn S (fun vs H Q E h => h.1) (fun vs H Q E h => h) fun f cdv A outer s H1 H vs Q hA hs => ?_
  obtain ⟨hl', ht, a, ha, ra, q⟩ := hs
  have r := ra.start (N.length - vs.length)
  refine (h f cdv A outer s H1 H Q a hA ⟨S.nd, fun _ => rfl, fun _ => rfl⟩ ha ht (fun v H' d' s' rv e => q v H' s' (e ▸ rv))).run _ H (Same.refl H) ?_
  rw [← hl']
  exact r
end
/-! ### name = [..] on one line, the name a local: the list is stored before the block goes -/
section
variable {I : Type} {X : I → Cx} {σ : St} {H H' : Hp} {tg e a b c : Expr} {es rest : List Expr} {pos : Pos}
variable {P : Program} {w : World} {K : PySem.W.Frag} {mg : Str → Option Value} {base : Heap} {k : Nat} {x : Str} {p : Pos} {ps : List Str} {D : Ends} {sts : List Stmt}
/-- y stands for a local that the block does not own -/
def swB (sc scope : Scope) (y : Str) : Bool := decide (sc.kind = .function) && decide (sc.names.lookup y = some .local) && !(scope.names.any fun (n, k) => n == y && (k == .local || k == .cell))
theorem sw_by {elt : Expr} {gs : List Comprehension} {scope sc : Scope} {pos py : Pos} {y : Str} {l : Nat} {env : Env} (hs : env.scope = sc) (h : swB sc scope y = true) (hl : (py.line == pos.line) = true) : swapsWith (.ListComp elt gs scope pos) (some (.Name y py)) l env = pure true := by
  subst hs
  unfold swB at h
  simp only [Bool.and_eq_true, decide_eq_true_eq, Bool.not_eq_true'] at h
  exact sw_true h.1.1 h.1.2 hl h.2
theorem wb_setLcF {elt : Expr} {ifs : List Expr} {scope : Scope} {own : List (Str × Nat)} {g : TG} {ds : List PyData} {i0 : Nat} {y : Str} {py spos : Pos} (hA : ∀ i, At (X i) P w K mg base k) (hN : ∀ i, (X i).N.Nodup) (ok : ∀ i, BlkOk (X i).N (X i).env.scope scope own)
    (hg : ∀ i, PG (blkF X scope i) tg g) (src : DI X σ H tg e ds) (F : PyData → Option PyData)
    (step : ∀ d, d ∈ ds → ∃ S, TgD g (wipe σ (own.map (·.2))) d S ∧ ∀ H' σ2, Same H H' → S σ2 H' → wipe σ2 (own.map (·.2)) = wipe σ (own.map (·.2)) ∧ DTs (blkF X scope) σ2 H' ifs (fun t => t = (F d).isSome) ∧
      (∀ y, F d = some y → DE (blkF X scope) σ2 H' elt y))
    (hy : ∀ i, (X i).N[i0]? = some y) (hyl : ∀ i, (X i).env.scope.names.lookup y = some .local) (hsw : ∀ i, swapsWith (.ListComp elt [⟨tg, e, ifs, 0⟩] scope pos) (some (.Name y py)) spos.line (X i).env = pure true)
    (q : ∀ v H2, Same H H2 → Rp H2 v (.list (ds.filterMap F)) → uB X sts D (σ.set i0 (some v)) H2) (hs : ∀ i x, foldedSetIterable e (X i).env x = pure x := by intro _ _; rfl) :
    uB X (.Assign [.Name y py] (.ListComp elt [⟨tg, e, ifs, 0⟩] scope pos) spos :: sts) D σ H := by
  refine wb_cons (fun i => ps_setLc (te := uE (blkF X scope) elt) (hA i).calm (hN i) (hy i) (hyl i) (hsw i) (pi_u i) (ok i) (fun s H C cl fp => hg (i, s, H, C, cl, fp)) (fun s H C cl fp => pts_u (X := blkF X scope) (i, s, H, C, cl, fp)) (fun s H C cl fp => pe_u (X := blkF X scope) (i, s, H, C, cl, fp)) (hs i)) ?_
  refine lc_sem (elt := elt) (ifs := ifs) (scope := scope) (own := own) (g := g) src (fun i acc => acc = (ds.take i).filterMap F) (by simp) (fun i d acc hd pv => ?_) H _ (Same.refl H) fun v H2 d s2 r ⟨acc, e1, e2⟩ => ?_
  · obtain ⟨S, hS, q⟩ := step d (List.mem_of_getElem? hd)
    refine ⟨S, hS, fun H' σ2 s z => ?_⟩
    obtain ⟨h1, h2, h3⟩ := q H' σ2 s z
    refine ⟨h1, _, h2, fun f => ?_, fun f => ?_⟩
    · rw [filterMap_take hd, pv]
      cases q : F d with
      | none => simp
      | some y => rw [q] at f; cases f
    · cases q : F d with
      | none => rw [q] at f; cases f
      | some y =>
        refine ⟨_, h3 y q, fun y' e' => ?_⟩
        subst e'
        rw [filterMap_take hd, pv, q]
  · rw [List.take_length] at e2
    subst e1 e2
    exact q v H2 s2 r
end
section
variable {I : Type} {X : I → Cx} {H0 : Hp} {ρ : Env1} {tg e a b c : Expr} {es rest : List Expr} {pos : Pos}
variable {P : Program} {w : World} {K : PySem.W.Frag} {mg : Str → Option Value} {base : Heap} {k : Nat} {x : Str} {p : Pos} {ps : List Str} {D : Ends} {sts : List Stmt}
theorem ws_setLcF {elt : Expr} {ifs : List Expr} {scope : Scope} {own : List (Str × Nat)} {g : TG} {ds : List PyData} {i0 : Nat} {y : Str} {py spos : Pos} (hA : ∀ i, At (X i) P w K mg base k) {N : List Str} {sc : Scope} (S : Sc X N sc) (hg : ∀ i, PG (blkF X scope i) tg g) (src : EI X H0 ρ tg e ds) (F : PyData → Option PyData)
    (step : ∀ d, d ∈ ds → ∃ upd, TgR g d (own.map (·.2)) upd ∧ EBs (blkF X scope) H0 (upd (wipeR ρ (own.map (·.2)))) ifs (F d).isSome ∧ (∀ y, F d = some y → EV (blkF X scope) H0 (upd (wipeR ρ (own.map (·.2)))) elt y))
    (q : WS X H0 (ρ.set i0 (some (.dat (.list (ds.filterMap F))))) sts D)
    (ok : blkC N sc scope own = true := by decide +kernel) (sw : swB sc scope y = true := by decide +kernel) (hy : N[i0]? = some y := by rfl) (hl : (py.line == pos.line) = true := by rfl) (hs : ∀ i x, foldedSetIterable e (X i).env x = pure x := by intro _ _; rfl) :
    WS X H0 ρ (.Assign [.Name y py] (.ListComp elt [⟨tg, e, ifs, 0⟩] scope pos) spos :: sts) D := .mk fun σ H s r => by
  have sw' := sw
  unfold swB at sw'
  simp only [Bool.and_eq_true, decide_eq_true_eq, Bool.not_eq_true'] at sw'
  exact wb_setLcF (own := own) (g := g) hA S.ndx (S.ok ok) hg (src σ H s r) F (fun d hd => by
    obtain ⟨up, tg, h1, h2⟩ := step d hd
    obtain ⟨S', hS, q⟩ := tg (wipe σ (own.map (·.2)))
    refine ⟨S', hS, fun H' σ2 s' z => ?_⟩
    obtain ⟨r2, w2⟩ := q σ2 H' _ ((r.mono s').wipe _) z
    exact ⟨w2.trans wipe_wipe, h1 σ2 H' (s.trans s') r2, fun y e1 => h2 y e1 σ2 H' (s.trans s') r2⟩) (fun i => by rw [S.hN i]; exact hy) (fun i => by rw [S.hs i]; exact sw'.1.2) (fun i => sw_by (S.hs i) sw hl)
    (fun v H2 s2 rv => q.run _ H2 (s.trans s2) ((r.mono s2).set rv)) hs
/-- y = [elt for z in e if c] -/
theorem ws_setLcIf {elt : Expr} {scope : Scope} {z : Str} {tp : Pos} {ds : List PyData} {i i0 : Nat} {y : Str} {py spos : Pos} (hA : ∀ i, At (X i) P w K mg base k) {N : List Str} {sc : Scope} (S : Sc X N sc) (src : EI X H0 ρ (.Name z tp) e ds) (t : PyData → Bool) (f : PyData → PyData)
    (step : ∀ d, d ∈ ds → EB (blkF X scope) H0 ((wipeR ρ [i]).set i (some (.dat d))) c (t d) ∧ (t d = true → EV (blkF X scope) H0 ((wipeR ρ [i]).set i (some (.dat d))) elt (f d)))
    (q : WS X H0 (ρ.set i0 (some (.dat (.list ((ds.filter t).map f))))) sts D)
    (ok : blkC N sc scope [(z, i)] = true := by decide +kernel) (sw : swB sc scope y = true := by decide +kernel) (hy : N[i0]? = some y := by rfl) (hl : (py.line == pos.line) = true := by rfl)
    (hi : ∀ i', (X i').N[i]? = some z := by intro _; rfl) (hx : ∀ i', Loc (blkF X scope i').env.scope z := by intro _; first | exact Or.inl rfl | exact Or.inr rfl) (hf : ∀ i', (blkF X scope i').fn z = true ∨ (blkF X scope i').env.scope.names.lookup z = some .local := by intro _; first | exact Or.inr rfl | exact Or.inl rfl)
    (hs : ∀ i x, foldedSetIterable e (X i).env x = pure x := by intro _ _; rfl) :
    WS X H0 ρ (.Assign [.Name y py] (.ListComp elt [⟨.Name z tp, e, [c], 0⟩] scope pos) spos :: sts) D := by
  refine ws_setLcF (own := [(z, i)]) (g := gName i) hA S (fun i' => pg_name (S.ndx i'.1) (hi i'.1) (hx i') (hf i')) src (fun d => if t d then some (f d) else none) (fun d hd => ⟨_, tgr_name, ?_, fun y e1 => ?_⟩) ?_ ok sw hy hl hs
  · obtain ⟨h1, h2⟩ := step d hd
    refine ebs_one (h1.to ?_)
    cases t d <;> rfl
  · by_cases h : t d = true
    · rw [if_pos h] at e1
      cases e1
      exact (step d hd).2 h
    · rw [if_neg h] at e1
      cases e1
  · have e1 : ds.filterMap (fun d => if t d then some (f d) else none) = (ds.filter t).map f := by
      clear step src q
      induction ds with
      | nil => rfl
      | cons d ds ih => rw [List.filterMap_cons, List.filter_cons, ih]; cases t d <;> simp
    rw [e1]
    exact q
/-- y = [elt for z in e] -/
theorem ws_setLcMap {elt : Expr} {scope : Scope} {z : Str} {tp : Pos} {ds : List PyData} {i i0 : Nat} {y : Str} {py spos : Pos} (hA : ∀ i, At (X i) P w K mg base k) {N : List Str} {sc : Scope} (S : Sc X N sc) (src : EI X H0 ρ (.Name z tp) e ds) (f : PyData → PyData)
    (step : ∀ d, d ∈ ds → EV (blkF X scope) H0 ((wipeR ρ [i]).set i (some (.dat d))) elt (f d))
    (q : WS X H0 (ρ.set i0 (some (.dat (.list (ds.map f))))) sts D)
    (ok : blkC N sc scope [(z, i)] = true := by decide +kernel) (sw : swB sc scope y = true := by decide +kernel) (hy : N[i0]? = some y := by rfl) (hl : (py.line == pos.line) = true := by rfl)
    (hi : ∀ i', (X i').N[i]? = some z := by intro _; rfl) (hx : ∀ i', Loc (blkF X scope i').env.scope z := by intro _; first | exact Or.inl rfl | exact Or.inr rfl) (hf : ∀ i', (blkF X scope i').fn z = true ∨ (blkF X scope i').env.scope.names.lookup z = some .local := by intro _; first | exact Or.inr rfl | exact Or.inl rfl)
    (hs : ∀ i x, foldedSetIterable e (X i).env x = pure x := by intro _ _; rfl) :
    WS X H0 ρ (.Assign [.Name y py] (.ListComp elt [⟨.Name z tp, e, [], 0⟩] scope pos) spos :: sts) D := by
  refine ws_setLcF (own := [(z, i)]) (g := gName i) hA S (fun i' => pg_name (S.ndx i'.1) (hi i'.1) (hx i') (hf i')) src (fun d => some (f d)) (fun d hd => ⟨_, tgr_name, ebs_nil, fun y e1 => ?_⟩) ?_ ok sw hy hl hs
  · cases e1
    exact step d hd
  · have e1 : ds.filterMap (fun d => some (f d)) = ds.map f := by simp
    rw [e1]
    exact q
end
end SW

set_option Elab.async false
set_option linter.all false
set_option maxRecDepth 100000
set_option maxHeartbeats 2000000
/-! SwMut: lists that are changed in loops: raw slots, raw heaps. -/
namespace SW
open PySem
open L2 hiding Same
variable [Nm]
section
variable {I : Type} {X : I → Cx} {σ : St} {H H' : Hp} {tg e a b c : Expr} {es rest : List Expr} {pos : Pos}
variable {P : Program} {w : World} {K : PySem.W.Frag} {mg : Str → Option Value} {base : Heap} {k : Nat} {x : Str} {p : Pos} {ps : List Str} {D : Ends} {sts body : List Stmt}
/-- [] -/
theorem ue_nil {Q : VK} (q : ∀ D, H D = none → Q (.ref D) (upd H D (.lst []))) : uE X (.List [] pos) σ H Q := ⟨_, fun i => pe_lst pa_nil, ⟨Nat.zero_le _, fun D hD => q D hD⟩⟩
theorem ue_var {Q : VK} {i : Nat} {v : V} (pv : ∀ i', PE (X i') e (tVar i)) (h : σ[i]? = some (some v)) (q : Q v H) : uE X e σ H Q := ⟨_, pv, v, h, q⟩
theorem wb_setU {i : Nat} {y : Str} {pos' : Pos} (h : uE X e σ H fun v H' => uB X sts D (σ.set i (some v)) H') (hN : ∀ i, (X i).N.Nodup) (hi : ∀ i', (X i').N[i]? = some y := by intro _; rfl) (hx : ∀ i', Loc (X i').env.scope y := by intro _; exact Or.inl rfl)
    (hs : ∀ i', swapsWith e (some (.Name y pos')) pos.line (X i').env = pure false := by intro _; rfl) (hf : ∀ i', (X i').fn y = true ∨ (X i').env.scope.names.lookup y = some .local := by intro _; first | exact Or.inl rfl | exact Or.inr rfl) : uB X (.Assign [.Name y pos'] e pos :: sts) D σ H :=
  wb_cons (fun i' => ps_set (hN i') (hi i') (hx i') (pe_u i') (hs i') (hf i')) h
/-- a loop over what iterates by J -/
theorem wb_forR {g : TG} {J : It} {ti : TI} (hA : ∀ i, At (X i) P w K mg base k) (pi : ∀ i, PI (X i) tg e ti) (hti : ∀ R : It → Hp → Prop, R J H → ti σ H R) (hg : ∀ i, PG (X i) tg g) (n : Nat) (Pv : Nat → St → Hp → Prop) (h0 : Pv 0 σ H)
    (step : ∀ i σ' H', i < n → Pv i σ' H' → J.go i H' ∧ ∀ x H4, J.yld i H' x H4 → ∀ N : St → Hp → Prop, (∀ σ3 H3, Pv (i + 1) σ3 H3 → N σ3 H3) → g x σ' H4 fun σ2 H2 => uB X body { D with nx := N, ct := N, bk := fun σ H => uB X sts D σ H } σ2 H2)
    (fin : ∀ σ' H', Pv n σ' H' → J.stop n H' ∧ uB X sts D σ' H')
    (hp : ∀ i, PassesOwn (model (X i).prog (X i).w) (X i).A (X i).env (X i).xe) (hf : ∀ i x, foldedSetIterable e (X i).env x = pure x := by intro _ _; rfl) : uB X (.For tg e body [] pos :: sts) D σ H :=
  wb_cons (fun i => ps_for (hp i) (hA i).calm (pi i) (hg i) (pb_u i) (hf i)) (hti _ (by
    refine ⟨fun i m σ' H' => m = n - i ∧ i ≤ n ∧ Pv i σ' H', ⟨_, rfl, Nat.zero_le _, h0⟩, ?_⟩
    rintro i m σ' H' ⟨rfl, hi, pv⟩
    rcases Nat.lt_or_ge i n with lt | ge
    · obtain ⟨s1, s2⟩ := step i σ' H' lt pv
      exact .inr ⟨s1, fun σ' H' => Pv (i + 1) σ' H', fun σ' H' q => ⟨_, by omega, rfl, lt, q⟩, fun x H4 y => s2 x H4 y _ fun σ3 H3 z => z⟩
    · have e1 : i = n := by omega
      subst e1
      exact .inl (fin σ' H' pv)))
/-- xs.append(e), xs in slot j -/
theorem ue_mono {Q Q' : VK} (h : uE X e σ H Q) (f : ∀ v H', Q v H' → Q' v H') : uE X e σ H Q' :=
  ⟨fun σ H Q' => ∃ Q, (∀ v H', Q v H' → Q' v H') ∧ uE X e σ H Q, fun i => ⟨fun pins s σ H Q' J ⟨Q, f, h⟩ => thn ((pe_u i).run pins s σ H Q J h) fun v s1 ⟨v', H', J', r, q⟩ => ⟨v', H', J', r, f _ _ q⟩⟩, Q, f, h⟩
theorem wb_append {j : Nat} {A : Addr} {vs : List V} {y : V} {m : Str} {p1 p2 p3 : Pos} (hA : ∀ i, At (X i) P w K mg base k) (hj : ∀ i, PE (X i) (.Name m p1) (tVar j)) (hσ : σ[j]? = some (some (.ref A))) (hH : H A = some (.lst vs)) (hz : vs.length < sizeLine) (he : uE X e σ H fun v H' => v = y ∧ H' = H) (q : uB X sts D σ (upd H A (.lst (vs ++ [y]))))
    (hbase : ∀ i, attributeBase (.Name m p1) "append" (X i).env (eval (.Name m p1) (X i).env) = eval (.Name m p1) (X i).env := by intro _; rfl) (hline : (p2.endLine == p3.line) = true := by rfl)
    (hfew : ∀ i, ((backTo p3 (starEach [e] (X i).env)).all (fun x => !x.1) && (backToKw p3 (keywordEach [] (X i).env)).all (fun x => x.1.isSome) && decide ([e].length + ([] : List Keyword).length + (if ([] : List Keyword).isEmpty then 0 else 1) < 30)) = true := by intro _; rfl)
    (hs : ∀ i, starEach [e] (X i).env = (false, eval e (X i).env) :: starEach [] (X i).env := by intro _; rfl) :
    uB X (.Expr (.Call (.Attribute (.Name m p1) "append" p2) [e] [] p3) pos :: sts) D σ H :=
  wb_cons (t := tDrop (tBM K "list" rAppend (tVar j) (tCons (uE X e) tNil))) (fun i => ps_expr (by
    have z := pe_bm (X := X i) PySem.F.plainAttrs_list PySem.F.slot_list_append PySem.F.type_list_append mt_append (hj i) (pa_cons (pe_u i) pa_nil (hs i)) (hbase i) (hfew i) hline (hs i) (by rfl)
    rw [(hA i).K] at z
    exact z) rfl) ⟨.ref A, hσ, .inl ⟨rfl, _, SqL.of hH⟩, ue_mono he fun v H' ⟨e1, e2⟩ => by
      subst e1 e2
      exact ⟨A, vs, v, rfl, rfl, hH, hz, q⟩⟩
/-- not what must stay -/
def Fr (H : Hp) (a : Addr) : Prop := ∀ o, H a = some o → nT o = false
theorem Fr.of {H H' : Hp} {a : Addr} (s : Same H H') (h : H' a = none) : Fr H a := fun o e => by
  cases c : nT o with
  | false => rfl
  | true => rw [s.at_ _ _ e c] at h; cases h
theorem same_hideW {H H' : Hp} {A : Addr} {o u : HO} (s : Same H H') (h : Fr H A) (hD : H' A = some o) (hn : nC o = true := by rfl) : Same H (upd H' A u) :=
  ⟨fun b o' q n => by
    have ne : b ≠ A := fun z => by
      subst z
      rw [h _ q] at n
      cases n
    rw [upd_ne ne]
    exact s.at_ _ _ q n, fun P t => (s.tab P t).write hD hn⟩
/-- [x] * n of an int: a new list -/
theorem ue_zeros {Q : VK} {i : Nat} {n : Nat} {z : Int} {y : Str} {p1 p2 p3 : Pos} {j0} (pv : ∀ i', PE (X i') (.Name y p2) (tVar i)) (hσ : σ[i]? = some (some (.int (n : Int)))) (hn : n ≤ 1000)
    (q : ∀ q p, H q = none → upd H q (.lst [.int z]) p = none → Q (.ref p) (upd (upd H q (.lst [.int z])) p (.lst (List.replicate n (.int z))))) : uE X (.BinOp (.List [.Constant (.int z) j0 p1] p3) .Mult (.Name y p2) pos) σ H Q :=
  ⟨_, fun i' => pe_op op_rep (pe_lst (pa_cons pe_int pa_nil rfl)) (pv i'), ⟨Nat.le_of_lt (small1000 (show 1 ≤ 1000 by decide)), fun q0 hq => ⟨.int (n : Int), hσ, q0, (n : Int), [.int z], rfl, rfl, upd_same, by omega, by omega, by
    rw [List.length_singleton, Nat.one_mul, Int.toNat_natCast]
    exact Nat.le_of_lt (small1000 hn), fun p hp => by
    have e : (List.replicate ((n : Int)).toNat [V.int z]).flatten = List.replicate n (.int z) := by
      rw [Int.toNat_natCast]
      clear hσ q hn
      induction n with
      | zero => rfl
      | succ n ih => rw [List.replicate_succ, List.flatten_cons, ih] <;> rfl
    rw [e]
    exact q q0 p hq hp⟩⟩⟩
theorem ixNat {n j : Nat} (hj : j < n) : ixN n (j : Int) = some j := by
  unfold ixN
  rw [if_pos (by omega), if_pos (by omega), Int.toNat_natCast]
/-- t[i][j] += c, ints -/
theorem wb_augCell {js je jt : Nat} {D0 A : Addr} {as : List V} {row : List Int} {s e : Nat} {c x : Int} {m ms me : Str} {p1 p2 p3 p4 p5 p6 : Pos} {j0} (hA : ∀ i, At (X i) P w K mg base k) (pt : ∀ i, PE (X i) (.Name m p1) (tVar jt)) (p_s : ∀ i, PE (X i) (.Name ms p2) (tVar js)) (p_e : ∀ i, PE (X i) (.Name me p3) (tVar je))
    (ht : σ[jt]? = some (some (.ref D0))) (hs : σ[js]? = some (some (.int (s : Int)))) (he : σ[je]? = some (some (.int (e : Int)))) (hD : H D0 = some (.lst as)) (ha : as[s]? = some (.ref A)) (hA' : H A = some (.lst (row.map .int))) (hx : row[e]? = some x)
    (q : uB X sts D σ (upd H A (.lst ((row.set e (x + c)).map .int)))) : uB X (.AugAssign (.Subscript (.Subscript (.Name m p1) (.Name ms p2) p4) (.Name me p3) p5) .Add (.Constant (.int c) j0 p6) pos :: sts) D σ H :=
  wb_cons (t := tAugS (tOp (rIxL K) (tVar jt) (tVar js)) (tVar je) (tC (.int c)) (rGetL K) (ipI fun i j => i + j) rSetL) (fun i => by
    have z := ps_augS (X := X i) (pos := pos) (tpos := p5) (pe_ix (pos := p4) ix_list (pt i) (p_s i) (fun _ _ => rfl)) (p_e i) get_list (pe_int (pos := p6) (j := j0) (i := c)) ip_add set_list
    rw [(hA i).K] at z
    exact z) ⟨_, ht, _, hs, D0, as, (s : Int), .ref A, rfl, rfl, SqL.of hD, atI_nat ha, .int (e : Int), he, A, row.map .int, e, .int x, rfl, rfl, SqL.of hA', by rw [List.getElem?_map, hx] <;> rfl, x, c, rfl, rfl, A, row.map .int, (e : Int), e, rfl, rfl, hA', by
      rw [List.length_map]
      exact ixNat (List.getElem?_eq_some_iff.mp hx).1, by rw [← List.map_set]; exact q⟩
/-- t[i][j] = c -/
theorem wb_setCell {js je jt : Nat} {D0 A : Addr} {as : List V} {row : List Int} {s e : Nat} {c : Int} {m ms me : Str} {p1 p2 p3 p4 p5 p6 : Pos} {j0} (hA : ∀ i, At (X i) P w K mg base k) (pt : ∀ i, PE (X i) (.Name m p1) (tVar jt)) (p_s : ∀ i, PE (X i) (.Name ms p2) (tVar js)) (p_e : ∀ i, PE (X i) (.Name me p3) (tVar je))
    (ht : σ[jt]? = some (some (.ref D0))) (hs : σ[js]? = some (some (.int (s : Int)))) (he : σ[je]? = some (some (.int (e : Int)))) (hD : H D0 = some (.lst as)) (ha : as[s]? = some (.ref A)) (hA' : H A = some (.lst (row.map .int))) (hx : e < row.length)
    (q : uB X sts D σ (upd H A (.lst ((row.set e c).map .int)))) : uB X (.Assign [.Subscript (.Subscript (.Name m p1) (.Name ms p2) p4) (.Name me p3) p5] (.Constant (.int c) j0 p6) pos :: sts) D σ H :=
  wb_cons (t := tAsg (tC (.int c)) (gSub (tOp (rIxL K) (tVar jt) (tVar js)) (tVar je) rSetL)) (fun i => by
    have z := ps_asg (X := X i) (pos := pos) (pe_int (pos := p6) (j := j0) (i := c)) (pg_sub (pos := p5) (pe_ix (pos := p4) ix_list (pt i) (p_s i) (fun _ _ => rfl)) (p_e i) set_list)
    rw [(hA i).K] at z
    exact z) ⟨_, ht, _, hs, D0, as, (s : Int), .ref A, rfl, rfl, SqL.of hD, atI_nat ha, .int (e : Int), he, A, row.map .int, (e : Int), e, rfl, rfl, hA', by
      rw [List.length_map]
      exact ixNat hx, by rw [← List.map_set]; exact q⟩
/-- y = [[x] * h for z in range(h)]: a table of new rows -/
theorem wb_setTable {n : Nat} {x : Int} {scope : Scope} {y z hh : Str} {ih iz i0 : Nat} {py spos lp p1 p2 p3 p4 p5 p6 tp : Pos} {j0} (hA : ∀ i, At (X i) P w K mg base k) {N : List Str} {sc : Scope} (S : Sc X N sc) (hm : mg "range" = none) (hh1 : σ[ih]? = some (some (.int (n : Int)))) (hn : n ≤ 30) (dif : ih ≠ iz)
    (pvh : ∀ i, PE (X i) (.Name hh p5) (tVar ih)) (pvb : ∀ i', PE (blkF X scope i') (.Name hh p2) (tVar ih))
    (q : ∀ (A : Addr) (as : List Addr) (H' : Hp), as.length = n → as.Nodup → A ∉ as → H' A = some (.lst (as.map V.ref)) → (∀ a ∈ as, H' a = some (.lst (List.replicate n (.int x)))) → Fr H A → (∀ a ∈ as, Fr H a) → Same H H' → uB X sts D (σ.set i0 (some (.ref A))) H')
    (ok : blkC N sc scope [(z, iz)] = true := by decide +kernel) (sw : swB sc scope y = true := by decide +kernel) (hy : N[i0]? = some y := by rfl) (hl : (py.line == lp.line) = true := by rfl)
    (hi : ∀ i', (X i').N[iz]? = some z := by intro _; rfl) (hx : ∀ i', Loc (blkF X scope i').env.scope z := by intro _; first | exact Or.inl rfl | exact Or.inr rfl) (hf : ∀ i', (blkF X scope i').fn z = true ∨ (blkF X scope i').env.scope.names.lookup z = some .local := by intro _; first | exact Or.inr rfl | exact Or.inl rfl)
    (hg : ∀ i, Gl (X i) "range" := by intro _; rfl) (ns : ∀ i, starEach [.Name hh p5] (X i).env = (false, eval (.Name hh p5) (X i).env) :: starEach [] (X i).env := by intro _; rfl)
    (hs : ∀ i v, foldedSetIterable (.Call (.Name "range" p4) [.Name hh p5] [] p6) (X i).env v = pure v := by intro _ _; rfl) :
    uB X (.Assign [.Name y py] (.ListComp (.BinOp (.List [.Constant (.int x) j0 p1] p3) .Mult (.Name hh p2) pos) [⟨.Name z tp, .Call (.Name "range" p4) [.Name hh p5] [] p6, [], 0⟩] scope lp) spos :: sts) D σ H := by
  have sw' := sw
  unfold swB at sw'
  simp only [Bool.and_eq_true, decide_eq_true_eq, Bool.not_eq_true'] at sw'
  refine wb_cons (fun i => ps_setLc (own := [(z, iz)]) (g := gName iz) (tt := uTs (blkF X scope) []) (te := uE (blkF X scope) (.BinOp (.List [.Constant (.int x) j0 p1] p3) .Mult (.Name hh p2) pos)) (wi := iRng1 (uA X [.Name hh p5])) (hA i).calm (S.ndx i) (by rw [S.hN i]; exact hy) (by rw [S.hs i]; exact sw'.1.2) (sw_by (S.hs i) sw hl) (pi_range1 (hg i) (by rw [(hA i).mg]; exact hm) (pa_u i) (ns i)) (S.ok ok i) (fun s H C cl fp => pg_name (S.ndx i) (hi i) (hx (i, s, H, C, cl, fp)) (hf (i, s, H, C, cl, fp))) (fun s H C cl fp => pts_u (X := blkF X scope) (i, s, H, C, cl, fp)) (fun s H C cl fp => pe_u (X := blkF X scope) (i, s, H, C, cl, fp)) (hs i)) ?_
  refine ⟨_, fun i => pa_cons (pvh i) pa_nil (ns i), ⟨.int (n : Int), hh1, (n : Int), rfl, by omega, by omega, fun A hA0 => ?_⟩⟩
  refine lc_range (fun i H' => ∃ as : List Addr, as.length = i ∧ as.Nodup ∧ A ∉ as ∧ H' A = some (.lst (as.map V.ref)) ∧ (∀ a ∈ as, H' a = some (.lst (List.replicate n (.int x))) ∧ Fr H a) ∧ Same H H') ⟨[], rfl, List.nodup_nil, by simp, upd_same, fun a ha => (by cases ha), same_upd hA0⟩ (fun i H' hi' ⟨as, h1, h2, h3, h4, h5, h6⟩ => ?_) fun H' ⟨as, h1, h2, h3, h4, h5, h6⟩ => ?_
  · refine ⟨by show ((σ.set iz none).set iz _).set iz none = σ.set iz none; rw [List.set_set, List.set_set], tYes, fun _ => pts_nil, ?_⟩
    refine yes_of (iteT (ue_zeros (i := ih) pvb (by
      show ((σ.set iz none).set iz _)[ih]? = _
      rw [List.getElem?_set_ne (fun e => dif e.symm), List.getElem?_set_ne (fun e => dif e.symm)]
      exact hh1) (by omega) fun b c hb hc => ⟨as.map V.ref, ?_, ?_, as ++ [c], ?_, ?_, ?_, ?_, ?_, ?_⟩))
    · have e1 : b ≠ A := fun e => by rw [e, h4] at hb; cases hb
      have e2 : c ≠ A := fun e => by rw [e, upd_ne e1.symm, h4] at hc; cases hc
      rw [upd_ne e2.symm, upd_ne e1.symm]
      exact h4
    · rw [List.length_map, h1]
      exact small1000 (by omega)
    · rw [List.length_append, h1] <;> rfl
    · refine List.nodup_append.mpr ⟨h2, by simp, fun a ha b' hb' e => ?_⟩
      rw [List.mem_singleton.mp hb'] at e
      subst e
      have ne : a ≠ b := fun e => by
        rw [← e, (h5 a ha).1] at hb
        cases hb
      rw [upd_ne ne, (h5 a ha).1] at hc
      cases hc
    · intro z0
      rcases List.mem_append.mp z0 with z1 | z1
      · exact h3 z1
      · have e2 := List.mem_singleton.mp z1
        have e1 : A ≠ b := fun e => by rw [← e, h4] at hb; cases hb
        rw [← e2, upd_ne e1, h4] at hc
        cases hc
    · rw [upd_same, List.map_append] <;> rfl
    · intro a ha
      have e1 : b ≠ A := fun e => by rw [e, h4] at hb; cases hb
      have e2 : c ≠ A := fun e => by rw [e, upd_ne e1.symm, h4] at hc; cases hc
      rcases List.mem_append.mp ha with z1 | z1
      · have n1 : a ≠ A := fun e => h3 (e ▸ z1)
        have n2 : a ≠ b := fun e => by rw [← e, (h5 a z1).1] at hb; cases hb
        have n3 : a ≠ c := fun e => by rw [← e, upd_ne n2, (h5 a z1).1] at hc; cases hc
        rw [upd_ne n1, upd_ne n3, upd_ne n2]
        exact h5 a z1
      · rw [List.mem_singleton.mp z1, upd_ne e2, upd_same]
        exact ⟨rfl, Fr.of (h6.trans (same_upd hb)) hc⟩
    · have e1 : b ≠ A := fun e => by rw [e, h4] at hb; cases hb
      have e2 : c ≠ A := fun e => by rw [e, upd_ne e1.symm, h4] at hc; cases hc
      refine same_hide (o := .lst (as.map V.ref)) ((h6.trans (same_upd hb)).trans (same_upd hc)) hA0 ?_
      rw [upd_ne e2.symm, upd_ne e1.symm]
      exact h4
  · exact q A as H' (by rw [h1, Int.toNat_natCast]) h2 h3 h4 (fun a ha => (h5 a ha).1) (fun o e => by rw [hA0] at e; cases e) (fun a ha => (h5 a ha).2) h6
end
end SW

set_option Elab.async false
set_option linter.all false
set_option maxRecDepth 100000
set_option maxHeartbeats 2000000
/-! SwC: a def of the text whose code object is known. -/
namespace SW
open PySem
open L2 hiding Same
variable [Nm]
/-- a def of the text, its code object at c -/
def DfC (K : PySem.W.Frag) (mg : Str → Option Value) (x : Str) (st : Stmt) (ps : List Str) (c : Addr) : Prop :=
  ∃ (f : Addr) (oc : Value) (od : Option Addr) (kV doc pm : Value) (an : Option Addr) (ct : Value) (osl : Array (Option Value)), K.lookup f = some ⟨oc, od, .func (PySem.W.fnOf x x (defArgs st) (defBody st) (defScope st) .none kV doc pm an (.ref c) ct), osl⟩ ∧ PySem.W.codeIn K (.ref c) x = true ∧
    PySem.W.keepIn K (.ref f) = true ∧ mg x = some (.ref f) ∧ Binds K (PySem.W.fnOf x x (defArgs st) (defBody st) (defScope st) .none kV doc pm an (.ref c) ct) ps []
section
variable {P : Program} {w : World} {K : PySem.W.Frag} {mg : Str → Option Value} {base : Heap} {k : Nat} {x : Str} {ps : List Str} {st : Stmt} {c : Addr}
theorem DfC.fnX {α : Type} {N : List Str} {tab : List Addr} {enc : α → List PyData} {ok : α → Prop} {out : α → PyData} (D : DfC K mg x st ps c) (S : FnScope N ps (defScope st)) (hl : ∀ a, ok a → (enc a).length = ps.length)
    (h : ∀ (f : Addr) (A : Around) (outer : List Env) (s : Shared) (H1 H0 : Hp) (Q : VK) (a : α), (∀ i, At (bdF P w K mg base N x (defScope st) f (.ref c) A outer s H1 i) P w K mg base k) → Sc (bdF P w K mg base N x (defScope st) f (.ref c) A outer s H1) N (defScope st) → ok a → (∀ P ∈ tab, TabF H0 P) → (∀ v H' d', Same H0 H' → Rp H' v d' → d' = out a → Q v H') →
      WS (bdF P w K mg base N x (defScope st) f (.ref c) A outer s H1) H0 (((enc a).map fun d => some (SD.dat d)) ++ List.replicate (N.length - ps.length) none) (defBody st) { nx := fun _ H' => Q .non H', rt := Q }) : Fn P w K mg base (k + 1) x ps (spX tab enc ok out ps.length) := by
  obtain ⟨f, oc, od, kV, doc, pm, an, ct, osl, lk, hcd, kp, hm, hb⟩ := D
  refine ⟨f, _, ?_, hm, kp, hb⟩
  refine fn_of lk hcd S (fun vs H Q E h => h.1) fun A outer s H vs Q E hr hs => ?_
  obtain ⟨hl', ht, a, ha, ra, q⟩ := hs
  have r := ra.start (N.length - vs.length)
  obtain ⟨t, p, z⟩ := (h f A outer s H H Q a (fun _ => ⟨rfl, rfl, rfl, rfl, rfl, rfl, hr⟩) ⟨S.nd, fun _ => rfl, fun _ => rfl⟩ ha ht (fun v H' d' s' rv e => q v H' s' (e ▸ rv))).run _ H (Same.refl H) (by
    rw [← hl']
    exact r)
  exact ⟨t, (p ()).nox, z⟩
end
end SW

set_option Elab.async false
set_option linter.all false
set_option maxRecDepth 100000
set_option maxHeartbeats 2000000
/-! SwE: exceptions: a def that raises, a call of one, raise, try: .. except x as n: .. -/
namespace SW
open PySem
open L2 hiding Same
variable [Nm]
/-- a def that may raise, with its promise -/
def FnX (P : Program) (w : World) (K : PySem.W.Frag) (mg : Str → Option Value) (base : Heap) (k : Nat) (x : Str) (ps : List Str) (sp : Sp) : Prop :=
  ∃ f fd, FnOk P w K mg base (L2.CX P w) k f fd ps sp ∧ mg x = some (.ref f) ∧ PySem.W.keepIn K (.ref f) = true ∧ Binds K fd ps []
theorem FnX.up {P : Program} {w : World} {K : PySem.W.Frag} {mg : Str → Option Value} {base : Heap} {k j : Nat} {x : Str} {ps : List Str} {sp : Sp} (h : FnX P w K mg base k x ps sp) (hk : k ≤ j) : FnX P w K mg base j x ps sp := by
  obtain ⟨f, fd, F, r⟩ := h
  exact ⟨f, fd, F.mono hk, r⟩
/-- such arguments, and it raises an exception of the class c, no dict with it -/
def spR (c : Value) (pre : List PyData → Prop) (n : Nat) : Sp := fun vs H _ E => vs.length = n ∧ ∃ ds, RpA H vs ds ∧ pre ds ∧ ∀ H', Same H H' → E c none H'
/-- the context of the body of a def that may raise -/
abbrev bdX (P : Program) (w : World) (K : PySem.W.Frag) (mg : Str → Option Value) (base : Heap) (N : List Str) (x : Str) (sc : Scope) (f : Addr) (cdv : Value) (A : Around) (outer : List Env) (s : Shared) (H : Hp) (E : XK) : Unit → Cx := fun _ => cxOf (L2.CX P w) P w K mg base N x sc f cdv A outer s H E
section
variable {P : Program} {w : World} {K : PySem.W.Frag} {mg : Str → Option Value} {base : Heap} {k : Nat} {x : Str} {p : Pos} {ps : List Str}
theorem Df.fnR {c : Value} {pre : List PyData → Prop} {st : Stmt} {N : List Str} (D : Df K mg x st ps) (S : FnScope N ps (defScope st))
    (h : ∀ (f : Addr) (cdv : Value) (A : Around) (outer : List Env) (s : Shared) (H1 H0 : Hp) (Q : VK) (E : XK) (ds : List PyData), (∀ i, At (bdX P w K mg base N x (defScope st) f cdv A outer s H1 E i) P w K mg base k) → Sc (bdX P w K mg base N x (defScope st) f cdv A outer s H1 E) N (defScope st) →
      (∀ i, Takes (bdX P w K mg base N x (defScope st) f cdv A outer s H1 E i) (fun cls d _ H => E cls d H)) → pre ds → ds.length = ps.length → (∀ H', Same H0 H' → E c none H') →
      WS (bdX P w K mg base N x (defScope st) f cdv A outer s H1 E) H0 ((ds.map fun d => some (SD.dat d)) ++ List.replicate (N.length - ps.length) none) (defBody st) { nx := fun _ H' => Q .non H', rt := Q }) : FnX P w K mg base (k + 1) x ps (spR c pre ps.length) := by
  obtain ⟨f, fd, F, hm, hb⟩ := D
  refine ⟨f, fd, ?_, hm, F.kp, hb⟩
  refine Fun.okX F S (fun vs H Q E h => h.1) fun cdv A outer s H vs Q E hr hs => ?_
  obtain ⟨hl, ds, ra, hp, q⟩ := hs
  have r := ra.start (N.length - vs.length)
  have z := (h f cdv A outer s H H Q E ds (fun _ => ⟨rfl, rfl, rfl, rfl, rfl, rfl, hr⟩) ⟨S.nd, fun _ => rfl, fun _ => rfl⟩ (fun _ => takes_of rfl rfl rfl rfl) hp (by rw [← ra.length]; exact hl) q).run (start N vs) H (Same.refl H) (by rw [← hl]; exact r)
  obtain ⟨t, p, q⟩ := z
  exact ⟨t, p (), q⟩
end
section
variable {I : Type} {X : I → Cx} {H0 : Hp} {ρ : Env1} {tg e a b c : Expr} {es rest : List Expr} {pos : Pos}
variable {P : Program} {w : World} {K : PySem.W.Frag} {mg : Str → Option Value} {base : Heap} {k : Nat} {x : Str} {p : Pos} {ps : List Str} {D : Ends} {sts : List Stmt}
/-- f(e, ..), f raises -/
theorem ep_raise {c : Value} {pre : List PyData → Prop} {n : Nat} {ds : List PyData} {W : WX} {Φ : PyData → Prop} (hA : ∀ i, At (X i) P w K mg base k) (tk : ∀ i, Takes (X i) W) (hf : FnX P w K mg base k x ps (spR c pre n)) (ha : EL X H0 ρ (e :: es) ds) (hp : pre ds)
    (hW : ∀ σ H, Same H0 H → RpS H σ ρ → W c none σ H) (hn : ds.length = n := by rfl) (hg : ∀ i, Gl (X i) x := by intro _; rfl) (hdb : (x == ("__debug__" : Str)) = false := by decide)
    (he : ∀ i, starEach (e :: es) (X i).env = (false, eval e (X i).env) :: starEach es (X i).env := by intro _; rfl) (hpl : ∀ i, (backTo pos (starEach es (X i).env)).any (·.1) = false := by intro _; rfl) : EP X H0 ρ (.Call (.Name x p) (e :: es) [] pos) Φ := .mk fun σ H s r H1 Q s1 q => by
  obtain ⟨f, fd, F, hm, hk, hb⟩ := hf
  refine ⟨tCallS (spR c pre n) (WE W) (uA X (e :: es)), fun i => ?_, ?_⟩
  rotate_left
  · exact ha σ H s r H1 _ s1 fun vs H2 ds' s2 rr e1 => by
      subst e1
      exact ⟨by rw [rr.length]; exact hn, _, rr, hp, fun H' s3 => hW σ H' (s.trans (s1.trans (s2.trans s3))) (r.mono (s1.trans (s2.trans s3)))⟩
  · obtain ⟨rfl, rfl, rfl, rfl, rfl, _, hr⟩ := hA i
    exact pe_callS F hr (hg i) hm hk hb (fun σ => passAt (tk i) σ) (pa_u i) hdb (he i) (hpl i)
/-- what is told of an exception's class without a body of its own -/
structure ExF (K : PySem.W.Frag) (mg : Str → Option Value) (x : Str) (c : Value) : Prop where
  ex : ∃ (C : Addr) (bmB : List Value) (B newId initId : String), c = .ref C ∧ ExcBaseFacts B newId initId bmB ∧ PySem.W.excIn K C bmB newId = true ∧ mg x = some (.ref C) ∧ PySem.W.keepIn K (.ref C) = true ∧ PySem.W.subIn K (.ref C) (.type "BaseException") = some true ∧ PySem.W.typeIn K (.ref C) = some (.type "type")
  me : PySem.W.exmOne K c c = some true
theorem ExF.mg_ {c : Value} (F : ExF K mg x c) : mg x = some c := by
  obtain ⟨C, bmB, B, n1, n2, rfl, _, _, h, _⟩ := F.ex
  exact h
/-- raise x('m') -/
theorem ws_raise {c : Value} {W : WX} {m : Str} {j : Nat} {p2 pos' : Pos} (hA : ∀ i, At (X i) P w K mg base k) (tk : ∀ i, Takes (X i) W) (F : ExF K mg x c) (hW : ∀ σ H, Same H0 H → RpS H σ ρ → W c none σ H)
    (hg : ∀ i, Gl (X i) x := by intro _; rfl) (hdb : (x == ("__debug__" : Str)) = false := by decide) : WS X H0 ρ (.Raise (some (.Call (.Name x p) [.Constant (.str m) j p2] [] pos')) none pos :: sts) D := .mk fun σ H s r => by
  obtain ⟨C, bmB, B, n1, n2, rfl, h1, h2, h3, h4, h5, h6⟩ := F.ex
  refine wb_cons (fun i => ?_) (t := fun _ σ H => (fun (_ : St) (H : Hp) (Q : XK) => Q (.ref C) none H) σ H fun cls d H' => W cls d σ H') (hW σ H s r)
  obtain ⟨rfl, rfl, rfl, rfl, rfl, hc, hr⟩ := hA i
  exact ps_raise hc (tk i) (pmk_own h1 h2 h3 h4 (raises_own h5 h6) (hg i) hdb)
/-- an expression as a statement that does not come to its end -/
theorem ws_exprF (h : EP X H0 ρ e (fun _ => False)) (hs : ∀ i, swapsWith e none pos.line (X i).env = pure false := by intro _; rfl) : WS X H0 ρ (.Expr e pos :: sts) D := .mk fun σ H s r =>
  wb_cons (fun i => ps_expr (pe_u i) (hs i)) ((h σ H s r).use fun _ H' _ s _ f => f.elim)
/-! ### try -/
/-- the contexts of a try's body -/
abbrev trF (X : Cx) (W : WX) : {p : List (Addr × Obj) × (Value → Shared → Prop) // Takes (X.tr p.1 p.2) W ∧ PassesOwn (model X.prog X.w) X.A X.env p.2} → Cx := fun p => X.tr p.1.1 p.1.2
/-- those of an except suite -/
abbrev suF (X : Cx) (a : Addr) (cls : Value) (d : Option Addr) : {p : Obj × List (Addr × Obj) // Zc cls d p.1 ∧ ∃ vs, p.1.data = .fields vs} → Cx := fun p => X.suite a ((a, p.1.1) :: p.1.2)
/-- the ends of the suite: the name goes -/
abbrev EndsX (i : Nat) (D : Ends) : Ends := { nx := fun σ' H' => D.nx (σ'.set i none) H', rt := D.rt, bk := fun σ' H' => D.bk (σ'.set i none) H', ct := fun σ' H' => D.ct (σ'.set i none) H' }
theorem ws_tryAs {Y : Cx} {c : Value} {i : Nat} {n : Str} {body suite : List Stmt} {b₀ : Stmt} {np pos' : Pos} {Wout : WX} (tk : Takes Y Wout) (hA : ∀ i, At ((fun _ : Unit => Y) i) P w K mg base k) (F : ExF K mg x c) (hN : Y.N.Nodup) (hi : Y.N[i]? = some n)
    (h : ∀ W, (∀ σ H, (∀ a, H a = none → uB (suF Y a c none) (b₀ :: suite) (EndsX i { D with nx := fun σ H => uB (fun _ : Unit => Y) sts D σ H }) (σ.set i (some (.ref a))) H) → W c none σ H) → WS (trF Y W) H0 ρ body { D with nx := fun σ H => uB (fun _ : Unit => Y) sts D σ H })
    (hs : Y.stack = Y.env :: Y.outer := by rfl) (hf : Y.env.frame = some Y.env.locals := by rfl) (hln : Y.env.kindOf n = some .local := by rfl) (hg : Gl Y x := by rfl) (hdb : (x == ("__debug__" : Str)) = false := by decide) :
    WS (fun _ : Unit => Y) H0 ρ (.Try body [.ExceptHandler (some (.Name x np)) (some n) (b₀ :: suite) pos'] [] [] pos :: sts) D := .mk fun σ H s r => by
  have hK : Y.K = K := (hA ()).K
  have hm : Y.mg x = some c := by rw [(hA ()).mg]; exact F.mg_
  refine wb_cons (fun _ => ps_try_as (tb := fun W D σ H => uB (trF Y W) body D σ H) (ts := fun a cls d D σ H => uB (suF Y a cls d) (b₀ :: suite) D σ H) hs hf hN hi hln ⟨hg, hdb, .inl hm⟩ tk (fun W pn xe t po => pb_u (X := trF Y W) ⟨(pn, xe), t, po⟩) (fun a oe cls d pn hz hd => pb_u (X := suF Y a cls d) ⟨(oe, pn), hz, hd⟩)) ?_
  refine (h _ fun σ' H' q => ?_).run σ H s r
  refine ⟨true, ?_, fun _ a na => q a na, fun e => by cases e⟩
  rw [hK]
  exact F.me
theorem at_tr {Y : Cx} {W : WX} (h : At Y P w K mg base k) : ∀ i, At (trF Y W i) P w K mg base k := fun _ => ⟨h.prog, h.w, h.K, h.mg, h.base, h.calm, h.room⟩
theorem sc_tr {Y : Cx} {W : WX} {N : List Str} {sc : Scope} (h : Sc (fun _ : Unit => Y) N sc) : Sc (trF Y W) N sc := ⟨h.nd, fun _ => h.hN (), fun _ => h.hs ()⟩
theorem tk_tr {Y : Cx} {W : WX} : ∀ i, Takes (trF Y W i) W := fun i => i.2.1
end
end SW

set_option Elab.async false
set_option linter.all false
set_option maxRecDepth 100000
set_option maxHeartbeats 2000000
/-! SwE3: exceptions with fields: classes with an __init__ of their own that stores one or two of them; raised, caught, read. -/
namespace SW
open PySem
open L2 hiding Same
variable [Nm]
/-- the fields of an exception's dict, by data -/
def FldOk (H : Hp) (fs : List (Str × V)) (l : List (Str × PyData)) : Prop := ∀ f d, (f, d) ∈ l → ∃ v, fs.lookup f = some v ∧ Rp H v d
theorem FldOk.mono {H H' : Hp} {fs : List (Str × V)} {l : List (Str × PyData)} (s : Same H H') (h : FldOk H fs l) : FldOk H' fs l := fun f d m => let ⟨v, e, r⟩ := h f d m; ⟨v, e, r.mono s⟩
/-- what __init__(self, f) keeps: one field is stored -/
def spI1 (C : Addr) (f : Str) : Sp := fun vs H Q _ => ∃ (a : Addr) (y : V), vs = [.ref a, y] ∧ H a = some (exo a C none) ∧ ∀ d, H d = none → d ≠ a → Q .non (upd (upd H d (exd d [(f, y)])) a (exo a C (some d)))
/-- two fields -/
def spI2 (C : Addr) (f g : Str) : Sp := fun vs H Q _ => ∃ (a : Addr) (y z : V), vs = [.ref a, y, z] ∧ H a = some (exo a C none) ∧ ∀ d, H d = none → d ≠ a → Q .non (upd (upd (upd H d (exd d [(f, y)])) a (exo a C (some d))) d (exd d [(g, z), (f, y)]))
/-- what is told of an exception's class with an __init__ of its own -/
structure ExI (P : Program) (w : World) (K : PySem.W.Frag) (mg : Str → Option Value) (base : Heap) (x : Str) (C : Addr) (sp : Sp) : Prop where
  oex : OexC K C
  xf : XfC K C
  mg_ : mg x = some (.ref C)
  ini : ∃ (fI : Addr) (fd : FuncData) (ps : List Str), PySem.W.findIn K (.ref C) "__init__" = some (some (.ref fI)) ∧ PySem.W.typeIn K (.ref fI) = some (.type "function") ∧ FnOk P w K mg base CX0 1 fI fd ps sp ∧ Binds K fd ps []
section
variable {P : Program} {w : World} {K : PySem.W.Frag} {mg : Str → Option Value} {base : Heap} {N : List Str} {st : Stmt} {fI C : Addr} {fd : FuncData} {x qual f g : Str} {ps : List Str}
/-- self.f = f -/
theorem fn_init1 {p1 p2 p3 p4 : Pos} (F : Fun K x qual st fI fd) (T : OexC K C) (hf : PySem.W.findIn K (.ref C) f = some none) (S : FnScope N ["self", f] (defScope st)) (hb : defBody st = [.Assign [.Attribute (.Name "self" p1) f p2] (.Name f p3) p4])
    (v0 : ∀ A outer s f' cdv H, PE (bdF P w K mg base N qual (defScope st) f' cdv A outer s H ()) (.Name "self" p1) (tVar 0)) (v1 : ∀ A outer s f' cdv H, PE (bdF P w K mg base N qual (defScope st) f' cdv A outer s H ()) (.Name f p3) (tVar 1))
    (hs : ∀ A outer s f' cdv H, swapsWith (.Name f p3) (some (.Attribute (.Name "self" p1) f p2)) p4.line (bdF P w K mg base N qual (defScope st) f' cdv A outer s H ()).env = pure false) : FnOk P w K mg base CX0 1 fI fd ["self", f] (spI1 C f) := by
  refine F.ok S (fun vs H Q E h => ?_) fun cdv A outer s H vs Q E hr h => ?_
  · obtain ⟨a, y, rfl, _⟩ := h
    rfl
  obtain ⟨a, y, rfl, ha, q⟩ := h
  rw [hb]
  refine ⟨_, pss_cons (ps_ost (X := bdF P w K mg base N qual (defScope st) fI cdv A outer s H ()) (v0 _ _ _ _ _ _) (v1 _ _ _ _ _ _) (hs _ _ _ _ _ _)) pss_nil, ?_⟩
  refine ⟨y, rfl, .ref a, rfl, a, C, rfl, T, hf, .inl ⟨ha, fun d n ne => q d n ne⟩⟩
/-- self.f = f, self.g = g -/
theorem fn_init2 {p1 p2 p3 p4 r1 r2 r3 r4 : Pos} (F : Fun K x qual st fI fd) (T : OexC K C) (hf : PySem.W.findIn K (.ref C) f = some none) (hg : PySem.W.findIn K (.ref C) g = some none) (S : FnScope N ["self", f, g] (defScope st))
    (hb : defBody st = [.Assign [.Attribute (.Name "self" p1) f p2] (.Name f p3) p4, .Assign [.Attribute (.Name "self" r1) g r2] (.Name g r3) r4])
    (v0 : ∀ A outer s f' cdv H p, PE (bdF P w K mg base N qual (defScope st) f' cdv A outer s H ()) (.Name "self" p) (tVar 0)) (v1 : ∀ A outer s f' cdv H p, PE (bdF P w K mg base N qual (defScope st) f' cdv A outer s H ()) (.Name f p) (tVar 1))
    (v2 : ∀ A outer s f' cdv H p, PE (bdF P w K mg base N qual (defScope st) f' cdv A outer s H ()) (.Name g p) (tVar 2))
    (hs : ∀ A outer s f' cdv H, swapsWith (.Name f p3) (some (.Attribute (.Name "self" p1) f p2)) p4.line (bdF P w K mg base N qual (defScope st) f' cdv A outer s H ()).env = pure false)
    (hs2 : ∀ A outer s f' cdv H, swapsWith (.Name g r3) (some (.Attribute (.Name "self" r1) g r2)) r4.line (bdF P w K mg base N qual (defScope st) f' cdv A outer s H ()).env = pure false) : FnOk P w K mg base CX0 1 fI fd ["self", f, g] (spI2 C f g) := by
  refine F.ok S (fun vs H Q E h => ?_) fun cdv A outer s H vs Q E hr h => ?_
  · obtain ⟨a, y, z, rfl, _⟩ := h
    rfl
  obtain ⟨a, y, z, rfl, ha, q⟩ := h
  rw [hb]
  refine ⟨_, pss_cons (ps_ost (X := bdF P w K mg base N qual (defScope st) fI cdv A outer s H ()) (v0 _ _ _ _ _ _ _) (v1 _ _ _ _ _ _ _) (hs _ _ _ _ _ _)) (pss_cons (ps_ost (X := bdF P w K mg base N qual (defScope st) fI cdv A outer s H ()) (v0 _ _ _ _ _ _ _) (v2 _ _ _ _ _ _ _) (hs2 _ _ _ _ _ _)) pss_nil), ?_⟩
  refine ⟨y, rfl, .ref a, rfl, a, C, rfl, T, hf, .inl ⟨ha, fun d n ne => ?_⟩⟩
  refine ⟨z, rfl, .ref a, rfl, a, C, rfl, T, hg, .inr ⟨d, [(f, y)], upd_same, ?_, by simp, q d n ne⟩⟩
  rw [upd_ne ne, upd_same]
end
/-- such arguments, and it raises an exception of the class c with these fields -/
def spRf (c : Value) (pre : List PyData → List (Str × PyData) → Prop) (n : Nat) : Sp := fun vs H _ E => vs.length = n ∧ ∃ ds l, RpA H vs ds ∧ pre ds l ∧ ∀ H' dd fs, Same H H' → H' dd = some (.xd fs) → FldOk H' fs l → E c (some dd) H'
section
variable {P : Program} {w : World} {K : PySem.W.Frag} {mg : Str → Option Value} {base : Heap} {k : Nat} {x : Str} {p : Pos} {ps : List Str}
theorem Df.fnRf {c : Value} {pre : List PyData → List (Str × PyData) → Prop} {st : Stmt} {N : List Str} (D : Df K mg x st ps) (S : FnScope N ps (defScope st))
    (h : ∀ (f : Addr) (cdv : Value) (A : Around) (outer : List Env) (s : Shared) (H1 H0 : Hp) (Q : VK) (E : XK) (ds : List PyData) (l : List (Str × PyData)), (∀ i, At (bdX P w K mg base N x (defScope st) f cdv A outer s H1 E i) P w K mg base k) → Sc (bdX P w K mg base N x (defScope st) f cdv A outer s H1 E) N (defScope st) →
      (∀ i, Takes (bdX P w K mg base N x (defScope st) f cdv A outer s H1 E i) (fun cls d _ H => E cls d H)) → pre ds l → ds.length = ps.length → (∀ H' dd fs, Same H0 H' → H' dd = some (.xd fs) → FldOk H' fs l → E c (some dd) H') →
      WS (bdX P w K mg base N x (defScope st) f cdv A outer s H1 E) H0 ((ds.map fun d => some (SD.dat d)) ++ List.replicate (N.length - ps.length) none) (defBody st) { nx := fun _ H' => Q .non H', rt := Q }) : FnX P w K mg base (k + 1) x ps (spRf c pre ps.length) := by
  obtain ⟨f, fd, F, hm, hb⟩ := D
  refine ⟨f, fd, ?_, hm, F.kp, hb⟩
  refine Fun.okX F S (fun vs H Q E h => h.1) fun cdv A outer s H vs Q E hr hs => ?_
  obtain ⟨hl, ds, l, ra, hp, q⟩ := hs
  have r := ra.start (N.length - vs.length)
  have z := (h f cdv A outer s H H Q E ds l (fun _ => ⟨rfl, rfl, rfl, rfl, rfl, rfl, hr⟩) ⟨S.nd, fun _ => rfl, fun _ => rfl⟩ (fun _ => takes_of rfl rfl rfl rfl) hp (by rw [← ra.length]; exact hl) q).run (start N vs) H (Same.refl H) (by rw [← hl]; exact r)
  obtain ⟨t, p, q⟩ := z
  exact ⟨t, p (), q⟩
end
section
variable {I : Type} {X : I → Cx} {H0 : Hp} {ρ : Env1} {tg e a b c : Expr} {es rest : List Expr} {pos : Pos}
variable {P : Program} {w : World} {K : PySem.W.Frag} {mg : Str → Option Value} {base : Heap} {k : Nat} {x : Str} {p : Pos} {ps : List Str} {D : Ends} {sts : List Stmt}
theorem ep_raiseF {c : Value} {pre : List PyData → List (Str × PyData) → Prop} {n : Nat} {ds : List PyData} {l : List (Str × PyData)} {W : WX} {Φ : PyData → Prop} (hA : ∀ i, At (X i) P w K mg base k) (tk : ∀ i, Takes (X i) W) (hf : FnX P w K mg base k x ps (spRf c pre n)) (ha : EL X H0 ρ (e :: es) ds) (hp : pre ds l)
    (hW : ∀ σ H dd fs, Same H0 H → RpS H σ ρ → H dd = some (.xd fs) → FldOk H fs l → W c (some dd) σ H) (hn : ds.length = n := by rfl) (hg : ∀ i, Gl (X i) x := by intro _; rfl) (hdb : (x == ("__debug__" : Str)) = false := by decide)
    (he : ∀ i, starEach (e :: es) (X i).env = (false, eval e (X i).env) :: starEach es (X i).env := by intro _; rfl) (hpl : ∀ i, (backTo pos (starEach es (X i).env)).any (·.1) = false := by intro _; rfl) : EP X H0 ρ (.Call (.Name x p) (e :: es) [] pos) Φ := .mk fun σ H s r H1 Q s1 q => by
  obtain ⟨f, fd, F, hm, hk, hb⟩ := hf
  refine ⟨tCallS (spRf c pre n) (WE W) (uA X (e :: es)), fun i => ?_, ?_⟩
  rotate_left
  · exact ha σ H s r H1 _ s1 fun vs H2 ds' s2 rr e1 => by
      subst e1
      exact ⟨by rw [rr.length]; exact hn, _, l, rr, hp, fun H' dd fs s3 => hW σ H' dd fs (s.trans (s1.trans (s2.trans s3))) (r.mono (s1.trans (s2.trans s3)))⟩
  · obtain ⟨rfl, rfl, rfl, rfl, rfl, _, hr⟩ := hA i
    exact pe_callS F hr (hg i) hm hk hb (fun σ => passAt (tk i) σ) (pa_u i) hdb (he i) (hpl i)
/-- the heap behind the making: the dict is new -/
theorem made_eq {H : Hp} {a d : Addr} {u v : HO} {fs : List (Str × V)} (na : H a = none) (ne : d ≠ a) {G : Hp} (hG : ∀ b, b ≠ a → b ≠ d → G b = H b) : upd (L2.del G a) d (.xd fs) = upd H d (.xd fs) := by
  funext b
  by_cases e1 : b = d
  · subst e1
    rw [upd_same, upd_same]
  · rw [upd_ne e1, upd_ne e1]
    by_cases e2 : b = a
    · subst e2
      rw [L2.del_same, na]
    · rw [L2.del_ne e2, hG b e2 e1]
/-- raise x(e), x's __init__ storing one field -/
theorem ws_raiseI1 {C : Addr} {f : Str} {W : WX} {d : PyData} {pos' : Pos} (hA : ∀ i, At (X i) P w K mg base (k + 2)) (tk : ∀ i, Takes (X i) W) (F : ExI P w K mg base x C (spI1 C f)) (ha : EV X H0 ρ e d)
    (hW : ∀ σ H dd fs, Same H0 H → RpS H σ ρ → H dd = some (.xd fs) → FldOk H fs [(f, d)] → W (.ref C) (some dd) σ H)
    (hg : ∀ i, Gl (X i) x := by intro _; rfl) (hdb : (x == ("__debug__" : Str)) = false := by decide) (he : ∀ i, starEach [e] (X i).env = (false, eval e (X i).env) :: starEach [] (X i).env := by intro _; rfl) (hpl : ∀ i, (backTo pos' (starEach [] (X i).env)).any (·.1) = false := by intro _; rfl) :
    WS X H0 ρ (.Raise (some (.Call (.Name x p) [e] [] pos')) none pos :: sts) D := .mk fun σ H s r => by
  obtain ⟨fI, fd, ps, h1, h2, h3, h4⟩ := F.ini
  have T := F.oex
  have hm := F.mg_
  refine wb_cons (t := fun _ σ H => tMkO C (spI1 C f) [] (uA X [e]) σ H fun cls d H' => W cls d σ H') (fun i => ?_) ?_
  · obtain ⟨rfl, rfl, rfl, rfl, rfl, hc, hr⟩ := hA i
    exact ps_raise hc (tk i) (pmk_oex T h1 h2 h3 (hr.mono (by omega)) h4 .nil pass0 (hg i) hm (pa_u i) hdb (he i) (hpl i))
  · exact (el1 ha he).run σ H s r H _ (Same.refl H) fun vs H1 ds s1 rr e1 => by
      subst e1
      obtain ⟨v, rfl, rv⟩ := rr.one
      refine ⟨by simp, fun a na => ⟨a, v, rfl, upd_same, fun dd n ne => ?_⟩⟩
      have n1 : H1 dd = none := by rwa [upd_ne ne] at n
      refine ⟨rfl, dd, [(f, v)], upd_same, by rw [upd_ne ne, upd_same], n1, ?_⟩
      rw [made_eq (u := exo a C none) (v := exo a C none) na ne fun b h1 h2 => by rw [upd_ne h1, upd_ne h2, upd_ne h1]]
      have s2 : Same H1 (upd H1 dd (.xd [(f, v)])) := same_upd n1
      refine hW σ _ dd _ (s.trans (s1.trans s2)) (r.mono (s1.trans s2)) upd_same fun f' d' m => ?_
      have m := List.mem_singleton.mp m
      injection m with m1 m2
      subst m1 m2
      exact ⟨v, by simp [List.lookup], rv.mono s2⟩
/-- raise x(e, e'), two fields -/
theorem ws_raiseI2 {C : Addr} {f g : Str} {W : WX} {d d2 : PyData} {e2 : Expr} {pos' : Pos} (hA : ∀ i, At (X i) P w K mg base (k + 2)) (tk : ∀ i, Takes (X i) W) (F : ExI P w K mg base x C (spI2 C f g)) (ne : (f == g) = false) (ha : EL X H0 ρ [e, e2] [d, d2])
    (hW : ∀ σ H dd fs, Same H0 H → RpS H σ ρ → H dd = some (.xd fs) → FldOk H fs [(f, d), (g, d2)] → W (.ref C) (some dd) σ H)
    (hg : ∀ i, Gl (X i) x := by intro _; rfl) (hdb : (x == ("__debug__" : Str)) = false := by decide) (he : ∀ i, starEach [e, e2] (X i).env = (false, eval e (X i).env) :: starEach [e2] (X i).env := by intro _; rfl) (hpl : ∀ i, (backTo pos' (starEach [e2] (X i).env)).any (·.1) = false := by intro _; rfl) :
    WS X H0 ρ (.Raise (some (.Call (.Name x p) [e, e2] [] pos')) none pos :: sts) D := .mk fun σ H s r => by
  obtain ⟨fI, fd, ps, h1, h2, h3, h4⟩ := F.ini
  have T := F.oex
  have hm := F.mg_
  refine wb_cons (t := fun _ σ H => tMkO C (spI2 C f g) [] (uA X [e, e2]) σ H fun cls d H' => W cls d σ H') (fun i => ?_) ?_
  · obtain ⟨rfl, rfl, rfl, rfl, rfl, hc, hr⟩ := hA i
    exact ps_raise hc (tk i) (pmk_oex T h1 h2 h3 (hr.mono (by omega)) h4 .nil pass0 (hg i) hm (pa_u i) hdb (he i) (hpl i))
  · exact ha.run σ H s r H _ (Same.refl H) fun vs H1 ds s1 rr e1 => by
      subst e1
      obtain ⟨v, v2, rfl, rv, rv2⟩ := rr.two
      refine ⟨by simp, fun a na => ⟨a, v, v2, rfl, upd_same, fun dd n nd => ?_⟩⟩
      have n1 : H1 dd = none := by rwa [upd_ne nd] at n
      refine ⟨rfl, dd, [(g, v2), (f, v)], by rw [upd_ne (Ne.symm nd), upd_same], upd_same, n1, ?_⟩
      rw [made_eq (u := exo a C none) (v := exo a C none) na nd fun b h1 h2 => by rw [upd_ne h2, upd_ne h1, upd_ne h2, upd_ne h1]]
      have s2 : Same H1 (upd H1 dd (.xd [(g, v2), (f, v)])) := same_upd n1
      refine hW σ _ dd _ (s.trans (s1.trans s2)) (r.mono (s1.trans s2)) upd_same fun f' d' m => ?_
      simp only [List.mem_cons, List.not_mem_nil, or_false] at m
      rcases m with m | m
      · injection m with m1 m2
        subst m1 m2
        exact ⟨v, by simp [List.lookup, ne], rv.mono s2⟩
      · injection m with m1 m2
        subst m1 m2
        exact ⟨v2, by simp [List.lookup], rv2.mono s2⟩
/-- try .. except x as n, of any class that x takes -/
theorem ws_tryAsG {Y : Cx} {c : Value} {i : Nat} {n : Str} {body suite : List Stmt} {b₀ : Stmt} {np pos' : Pos} {Wout : WX} (tk : Takes Y Wout) (hA : ∀ i, At ((fun _ : Unit => Y) i) P w K mg base k) (hmg : mg x = some c) (hN : Y.N.Nodup) (hi : Y.N[i]? = some n)
    (h : ∀ W, (∀ cls d σ H, PySem.W.exmOne K cls c = some true → (∀ a, H a = none → uB (suF Y a cls d) (b₀ :: suite) (EndsX i { D with nx := fun σ H => uB (fun _ : Unit => Y) sts D σ H }) (σ.set i (some (.ref a))) H) → W cls d σ H) → WS (trF Y W) H0 ρ body { D with nx := fun σ H => uB (fun _ : Unit => Y) sts D σ H })
    (hs : Y.stack = Y.env :: Y.outer := by rfl) (hf : Y.env.frame = some Y.env.locals := by rfl) (hln : Y.env.kindOf n = some .local := by rfl) (hg : Gl Y x := by rfl) (hdb : (x == ("__debug__" : Str)) = false := by decide) :
    WS (fun _ : Unit => Y) H0 ρ (.Try body [.ExceptHandler (some (.Name x np)) (some n) (b₀ :: suite) pos'] [] [] pos :: sts) D := .mk fun σ H s r => by
  have hK : Y.K = K := (hA ()).K
  have hm : Y.mg x = some c := by rw [(hA ()).mg]; exact hmg
  refine wb_cons (fun _ => ps_try_as (tb := fun W D σ H => uB (trF Y W) body D σ H) (ts := fun a cls d D σ H => uB (suF Y a cls d) (b₀ :: suite) D σ H) hs hf hN hi hln ⟨hg, hdb, .inl hm⟩ tk (fun W pn xe t po => pb_u (X := trF Y W) ⟨(pn, xe), t, po⟩) (fun a oe cls d pn hz hd => pb_u (X := suF Y a cls d) ⟨(oe, pn), hz, hd⟩)) ?_
  refine (h _ fun cls d σ' H' hb q => ?_).run σ H s r
  refine ⟨true, ?_, fun _ a na => q a na, fun e => by cases e⟩
  rw [hK]
  exact hb
/-- e.f in the suite -/
theorem ev_field {Y : Cx} {a C dd : Addr} {f : Str} {fs : List (Str × V)} {l : List (Str × PyData)} {d : PyData} (hK : Y.K = K) (T : XfC K C) (hno : PySem.W.findIn K (.ref C) f = some none) (he : EP (suF Y a (.ref C) (some dd)) H0 ρ e (fun _ => False) ∨ ∃ j, (∀ i, PE (suF Y a (.ref C) (some dd) i) e (tVar j)) ∧ ρ[j]? = some (some (.raw (.ref a))))
    (hd : H0 dd = some (.xd fs)) (hl : FldOk H0 fs l) (hm : (f, d) ∈ l) (hb : ∀ i, attributeBase e f (suF Y a (.ref C) (some dd) i).env (eval e (suF Y a (.ref C) (some dd) i).env) = eval e (suF Y a (.ref C) (some dd) i).env := by intro _; rfl) :
    EV (suF Y a (.ref C) (some dd)) H0 ρ (.Attribute e f pos) d := .mk fun σ H s r H1 Q s1 q => by
  subst hK
  refine ⟨tXf a (.ref C) (some dd) C f (uE (suF Y a (.ref C) (some dd)) e), fun i => pe_xf T hno i.2.1 i.2.2 (pe_u (X := suF Y a (.ref C) (some dd)) i) (hb i), ?_⟩
  obtain ⟨v, e1, rv⟩ := hl f d hm
  have xd1 : H1 dd = some (.xd fs) := (s.trans s1).at_ _ _ hd rfl
  rcases he with he | ⟨j, hp, hj⟩
  · exact he σ H s r H1 _ s1 fun _ _ _ _ _ z => z.elim
  · exact ⟨tVar j, hp, .ref a, r.getRaw hj, rfl, rfl, dd, fs, v, rfl, xd1, e1, q v H1 d (Same.refl _) (rv.mono (s.trans s1)) rfl⟩
end
end SW

set_option Elab.async false
set_option linter.all false
set_option maxRecDepth 100000
set_option maxHeartbeats 2000000
/-! SwHf: what a head must say of exception classes with an __init__ of their own, as one Bool of the written part. -/
namespace SW
open PySem
open L2 hiding Same
/-- an own class over ValueError with instances that have a dict -/
def oexCls (C : Addr) (o : Obj) : Bool :=
  match o.cls, o.data, o.slots.toList with
  | .type t, .cls c, [_, _, _, _, some (.builtin b), _] => t == "type" && (b == "ValueError.__new__" && (c.hasDict && (!c.hasDel && (match c.mro with | .ref C' :: up => C' == C && PySem.HandSPX.refsVE up | _ => false))))
  | _, _, _ => false
def oexK (K : PySem.W.Frag) (C : Addr) : Bool := (K.lookup C).any (oexCls C) && (He.eqO (PySem.W.findIn K (.ref C) "__setattr__") (some (some (.builtin "object.__setattr__"))) && (decide (PySem.W.subIn K (.ref C) (.type "BaseException") = some true) && (decide (PySem.W.typeIn K (.ref C) = some (.type "type")) && PySem.W.keepIn K (.ref C))))
theorem oexK_ok {K : PySem.W.Frag} {C : Addr} (h : oexK K C = true) : OexC K C := by
  obtain ⟨h1, h⟩ := Bool.and_eq_true_iff.mp h
  obtain ⟨h2, h⟩ := Bool.and_eq_true_iff.mp h
  obtain ⟨h3, h⟩ := Bool.and_eq_true_iff.mp h
  obtain ⟨h4, h5⟩ := Bool.and_eq_true_iff.mp h
  refine ⟨?_, He.eqO_ok h2, of_decide_eq_true h3, of_decide_eq_true h4, h5⟩
  cases e : K.lookup C with
  | none =>
    rw [e] at h1
    cases h1
  | some o =>
    rw [e] at h1
    have h1 : oexCls C o = true := h1
    obtain ⟨oc, od, dt, ⟨sl⟩⟩ := o
    unfold oexCls at h1
    split at h1
    · rename_i t c k0 k1 k2 k3 b k5 e1 e2 e3
      dsimp only at e1 e2 e3
      subst e1 e2 e3
      obtain ⟨a1, h1⟩ := Bool.and_eq_true_iff.mp h1
      obtain ⟨a2, h1⟩ := Bool.and_eq_true_iff.mp h1
      obtain ⟨a3, h1⟩ := Bool.and_eq_true_iff.mp h1
      obtain ⟨a4, h1⟩ := Bool.and_eq_true_iff.mp h1
      obtain ⟨nm, bs, mro, ns, qn, hd, sn, sub, ab, col, del⟩ := c
      dsimp only at a3 a4 h1
      cases mro with
      | nil => cases h1
      | cons v up =>
        cases v with
        | ref C' =>
          obtain ⟨a5, a6⟩ := Bool.and_eq_true_iff.mp h1
          obtain rfl := eq_of_beq a5
          obtain rfl := eq_of_beq a1
          obtain rfl := eq_of_beq a2
          subst a3
          obtain rfl : del = false := by simpa using a4
          exact ⟨nm, qn, ns, bs, up, sn, sub, ab, col, od, k0, k1, k2, k3, k5, rfl, a6⟩
        | _ => cases h1
    · cases h1
/-- its __init__, the field it stores -/
def iniK (K : PySem.W.Frag) (C : Addr) (fs : List Str) : Bool := He.eqO (PySem.W.findIn K (.ref C) "__init__") (some (some (.ref (He.ma K C "__init__")))) && (decide (PySem.W.typeIn K (.ref (He.ma K C "__init__")) = some (.type "function")) && fs.all fun f => He.eqO (PySem.W.findIn K (.ref C) f) (some none))
theorem iniK_ok {K : PySem.W.Frag} {C : Addr} {fs : List Str} (h : iniK K C fs = true) : PySem.W.findIn K (.ref C) "__init__" = some (some (.ref (He.ma K C "__init__"))) ∧ PySem.W.typeIn K (.ref (He.ma K C "__init__")) = some (.type "function") ∧ ∀ f ∈ fs, PySem.W.findIn K (.ref C) f = some none := by
  obtain ⟨h1, h⟩ := Bool.and_eq_true_iff.mp h
  obtain ⟨h2, h3⟩ := Bool.and_eq_true_iff.mp h
  exact ⟨He.eqO_ok h1, of_decide_eq_true h2, fun f hf => He.eqO_ok (List.all_eq_true.mp h3 f hf)⟩
/-- the j-th statement of a class's body -/
def clsAt (s : Stmt) (j : Nat) : Stmt := match s with
  | .ClassDef _ _ _ b _ _ _ _ _ _ _ => b.getD j (.Pass ⟨0, 0, 0, 0⟩)
  | _ => .Pass ⟨0, 0, 0, 0⟩
/-- all that a head says of such a class -/
def IniF (K : PySem.W.Frag) (mg : Str → Option Value) (x qual : Str) (st : Stmt) (ps fs : List Str) : Prop :=
  ∃ (C fI : Addr) (fd : FuncData), OexC K C ∧ XfC K C ∧ mg x = some (.ref C) ∧ PySem.W.findIn K (.ref C) "__init__" = some (some (.ref fI)) ∧ PySem.W.typeIn K (.ref fI) = some (.type "function") ∧ Fun K "__init__" qual st fI fd ∧ Binds K fd ps [] ∧ ∀ f ∈ fs, PySem.W.findIn K (.ref C) f = some none
end SW

set_option Elab.async false
set_option linter.all false
set_option maxRecDepth 100000
set_option maxHeartbeats 1000000
/-! SkTop: where the defs of this row stand, the facts of its top (printed by tools/gen_top.py) -/
namespace SK
open PySem L2 SW
def top (i : Nat) : Stmt := PySem.Challenge.pw_stepwebs_k10_all_refused.main.body.getD i (.Pass ⟨0, 0, 0, 0⟩)
abbrev s_is_number : Stmt := top 10
abbrev s_check_number : Stmt := top 11
abbrev s_check_prime : Stmt := top 12
abbrev s_is_pair : Stmt := top 13
abbrev s_is_order : Stmt := top 14
abbrev s_wrong_in_web : Stmt := top 15
abbrev s_check_web : Stmt := top 16
abbrev s_wrong_in_net : Stmt := top 17
abbrev s_check_net : Stmt := top 18
abbrev s_are_steps : Stmt := top 19
abbrev s_are_ways : Stmt := top 20
abbrev s_is_way : Stmt := top 21
abbrev s_ascends : Stmt := top 22
abbrev s_is_web : Stmt := top 24
abbrev s_ways : Stmt := top 25
abbrev s_factors : Stmt := top 26
abbrev s_times : Stmt := top 27
abbrev s_multiples : Stmt := top 28
abbrev s_least_multiple : Stmt := top 29
abbrev s_are_multiples : Stmt := top 30
abbrev s_turned : Stmt := top 31
abbrev s_is_two_way : Stmt := top 32
abbrev s_multiplied : Stmt := top 33
abbrev s_is_net : Stmt := top 35
abbrev s_net_of : Stmt := top 36
abbrev s_likeness : Stmt := top 37
abbrev s_are_alike : Stmt := top 38
abbrev s_shows_likeness : Stmt := top 39
abbrev s_count_symmetries : Stmt := top 40
abbrev s_is_even : Stmt := top 41
abbrev s_join_table : Stmt := top 42
abbrev s_check_two : Stmt := top 43
abbrev s_led : Stmt := top 44
abbrev s_first_rooms : Stmt := top 45
abbrev s_rooms_left : Stmt := top 46
abbrev s_places : Stmt := top 47
abbrev s_unlike_places : Stmt := top 48
abbrev s_are_twins : Stmt := top 49
abbrev s_count_reached : Stmt := top 50
abbrev s_keepers : Stmt := top 52
abbrev s_count_plain : Stmt := top 53
abbrev s_is_plain : Stmt := top 54
abbrev s_symmetries : Stmt := top 55
abbrev s_ring : Stmt := top 57
abbrev s_shows_ring : Stmt := top 58
abbrev s_steps_along : Stmt := top 59
abbrev s_ways_along : Stmt := top 60
abbrev s_completed : Stmt := top 61
abbrev s_last_fits : Stmt := top 62
abbrev s_write_web : Stmt := top 64
abbrev s_law_taken : Stmt := top 66
abbrev s_law_pick : Stmt := top 67
abbrev s_law_divisor : Stmt := top 68
abbrev s_law_web : Stmt := top 69
abbrev s_law_net : Stmt := top 70
abbrev s_law_error : Stmt := top 71
abbrev s_law_web_calls : Stmt := top 72
abbrev s_law_net_calls : Stmt := top 73
abbrev s_law : Stmt := top 74
instance nmRow : Nm := ⟨fun l c => if l = 168 ∧ c = 26 then "_places.<locals>.<lambda>" else if l = 285 ∧ c = 13 then "_law_web_calls.<locals>.<lambda>" else if l = 285 ∧ c = 32 then "_law_web_calls.<locals>.<lambda>" else if l = 286 ∧ c = 21 then "_law_web_calls.<locals>.<lambda>" else if l = 286 ∧ c = 49 then "_law_web_calls.<locals>.<lambda>" else if l = 287 ∧ c = 21 then "_law_web_calls.<locals>.<lambda>" else if l = 288 ∧ c = 21 then "_law_web_calls.<locals>.<lambda>" else if l = 288 ∧ c = 59 then "_law_web_calls.<locals>.<lambda>" else if l = 289 ∧ c = 21 then "_law_web_calls.<locals>.<lambda>" else if l = 289 ∧ c = 46 then "_law_web_calls.<locals>.<lambda>" else if l = 290 ∧ c = 21 then "_law_web_calls.<locals>.<lambda>" else if l = 290 ∧ c = 47 then "_law_web_calls.<locals>.<lambda>" else if l = 291 ∧ c = 20 then "_law_web_calls.<locals>.<lambda>" else if l = 291 ∧ c = 43 then "_law_web_calls.<locals>.<lambda>" else if l = 291 ∧ c = 72 then "_law_web_calls.<locals>.<lambda>" else if l = 293 ∧ c = 13 then "_law_net_calls.<locals>.<lambda>" else if l = 293 ∧ c = 42 then "_law_net_calls.<locals>.<lambda>" else if l = 293 ∧ c = 75 then "_law_net_calls.<locals>.<lambda>" else if l = 294 ∧ c = 21 then "_law_net_calls.<locals>.<lambda>" else if l = 295 ∧ c = 21 then "_law_net_calls.<locals>.<lambda>" else if l = 295 ∧ c = 66 then "_law_net_calls.<locals>.<lambda>" else if l = 296 ∧ c = 21 then "_law_net_calls.<locals>.<lambda>" else if l = 297 ∧ c = 21 then "_law_net_calls.<locals>.<lambda>" else if l = 297 ∧ c = 56 then "_law_net_calls.<locals>.<lambda>" else if l = 298 ∧ c = 20 then "_law_net_calls.<locals>.<lambda>" else if l = 298 ∧ c = 51 then "_law_net_calls.<locals>.<lambda>" else if l = 325 ∧ c = 18 then "law.<locals>.<lambda>" else if l = 329 ∧ c = 13 then "law.<locals>.<lambda>" else if l = 329 ∧ c = 35 then "law.<locals>.<lambda>" else if l = 330 ∧ c = 21 then "law.<locals>.<lambda>" else if l = 330 ∧ c = 54 then "law.<locals>.<lambda>" else if l = 331 ∧ c = 50 then "law.<locals>.<lambda>" else if l = 334 ∧ c = 23 then "law.<locals>.<lambda>" else ""⟩
structure Tx (K : PySem.W.Frag) (mg : Str → Option Value) : Prop where
  b_isinstance : mg "isinstance" = none
  b_int : mg "int" = none
  b_bool : mg "bool" = none
  b_any : mg "any" = none
  b_range : mg "range" = none
  b_tuple : mg "tuple" = none
  b_len : mg "len" = none
  b_all : mg "all" = none
  b_set : mg "set" = none
  b_zip : mg "zip" = none
  b_sorted : mg "sorted" = none
  b_min : mg "min" = none
  b_str : mg "str" = none
  b_max : mg "max" = none
  b_gcd : mg "gcd" = some (.builtin "math.gcd")
  c_most : ∃ t, mg "MOST_HALLS" = some (.int 13 t)
  x_WebError : ∃ c, ExF K mg "WebError" c
  i_BadWeb : IniF K mg "BadWeb" "BadWeb.__init__" (clsAt (top 3) 0) ["self", "part"] ["part"]
  i_BadNet : IniF K mg "BadNet" "BadNet.__init__" (clsAt (top 4) 0) ["self", "part"] ["part"]
  d_is_number : Df K mg "is_number" s_is_number ["value", "low", "high"]
  d_check_number : Df K mg "check_number" s_check_number ["value", "low", "high"]
  d_check_prime : Df K mg "check_prime" s_check_prime ["number"]
  d_is_pair : Df K mg "is_pair" s_is_pair ["value"]
  d_is_order : Df K mg "is_order" s_is_order ["value", "halls"]
  d_wrong_in_web : Df K mg "wrong_in_web" s_wrong_in_web ["value"]
  d_check_web : Df K mg "check_web" s_check_web ["value"]
  d_wrong_in_net : Df K mg "wrong_in_net" s_wrong_in_net ["value"]
  d_check_net : Df K mg "check_net" s_check_net ["value"]
  d_are_steps : Df K mg "_are_steps" s_are_steps ["value", "halls"]
  d_are_ways : Df K mg "_are_ways" s_are_ways ["value", "halls"]
  d_is_way : Df K mg "_is_way" s_is_way ["value", "halls"]
  d_ascends : Df K mg "_ascends" s_ascends ["row"]
  d_is_web : Df K mg "is_web" s_is_web ["value"]
  d_ways : Df K mg "ways" s_ways ["web"]
  d_factors : Df K mg "factors" s_factors ["halls"]
  d_times : Df K mg "times" s_times ["web", "factor"]
  d_multiples : Df K mg "multiples" s_multiples ["web"]
  d_least_multiple : Df K mg "least_multiple" s_least_multiple ["web"]
  d_are_multiples : Df K mg "are_multiples" s_are_multiples ["one", "other"]
  d_turned : Df K mg "turned" s_turned ["web"]
  d_is_two_way : Df K mg "is_two_way" s_is_two_way ["web"]
  d_multiplied : Df K mg "_multiplied" s_multiplied ["web", "factor"]
  d_is_net : Df K mg "is_net" s_is_net ["value"]
  d_net_of : Df K mg "net_of" s_net_of ["web"]
  d_likeness : Df K mg "likeness" s_likeness ["one", "other"]
  d_are_alike : Df K mg "are_alike" s_are_alike ["one", "other"]
  d_shows_likeness : Df K mg "shows_likeness" s_shows_likeness ["one", "other", "value"]
  d_count_symmetries : Df K mg "count_symmetries" s_count_symmetries ["net"]
  d_is_even : Df K mg "is_even" s_is_even ["net"]
  d_join_table : Df K mg "join_table" s_join_table ["net"]
  d_check_two : Df K mg "_check_two" s_check_two ["one", "other"]
  d_led : Df K mg "_led" s_led ["net", "order"]
  d_first_rooms : Df K mg "_first_rooms" s_first_rooms ["here", "there"]
  d_rooms_left : Df K mg "_rooms_left" s_rooms_left ["here", "there", "rooms", "hall", "place"]
  d_places : Df K mg "_places" s_places ["here", "there", "rooms"]
  d_unlike_places : Df K mg "_unlike_places" s_unlike_places ["table", "places"]
  d_are_twins : Df K mg "_are_twins" s_are_twins ["table", "one", "other"]
  d_count_reached : Df K mg "_count_reached" s_count_reached ["table", "rooms", "hall"]
  d_keepers : Df K mg "keepers" s_keepers ["web"]
  d_count_plain : Df K mg "count_plain" s_count_plain ["web"]
  d_is_plain : Df K mg "is_plain" s_is_plain ["web"]
  d_symmetries : Df K mg "symmetries" s_symmetries ["web"]
  d_ring : Df K mg "ring" s_ring ["net"]
  d_shows_ring : Df K mg "shows_ring" s_shows_ring ["net", "value"]
  d_steps_along : Df K mg "steps_along" s_steps_along ["net", "order"]
  d_ways_along : Df K mg "_ways_along" s_ways_along ["order", "steps"]
  d_completed : Df K mg "_completed" s_completed ["table", "order"]
  d_last_fits : Df K mg "_last_fits" s_last_fits ["table", "order"]
  d_write_web : Df K mg "write_web" s_write_web ["web"]
  d_law_taken : Df K mg "_law_taken" s_law_taken ["row", "many"]
  d_law_pick : Df K mg "_law_pick" s_law_pick ["row", "things"]
  d_law_divisor : Df K mg "_law_divisor" s_law_divisor ["one", "other"]
  d_law_web : Df K mg "_law_web" s_law_web ["row", "most"]
  d_law_net : Df K mg "_law_net" s_law_net ["row", "most"]
  d_law_error : Df K mg "_law_error" s_law_error ["work"]
  d_law_web_calls : Df K mg "_law_web_calls" s_law_web_calls ["bad", "good"]
  d_law_net_calls : Df K mg "_law_net_calls" s_law_net_calls ["bad", "good"]
end SK
-- isinstance,int,bool,any,range,tuple,len,all,set,zip,sorted,min,str,max

set_option Elab.async false
set_option linter.all false
set_option maxRecDepth 100000
set_option maxHeartbeats 2000000
/-! SwE4: try with several clauses, each with its name. -/
namespace SW
open PySem PySem.Spec PyProof.Rows
open L2 hiding Same
variable [Nm]
abbrev Cls3 : Type := Value × Nat × (Addr → Value → Option Addr → TS)
/-- what the clauses, one behind the other, wish of an exception -/
def wRow (K : PySem.W.Frag) (Wo : WX) (D : Ends) : List Cls3 → WX
  | [] => Wo
  | q :: qs => fun cls d σ H => ∃ b, PySem.W.exmOne K cls q.1 = some b ∧ (b = true → ∀ a, H a = none → q.2.2 a cls d (EndsX q.2.1 D) (σ.set q.2.1 (some (.ref a))) H) ∧ (b = false → wRow K Wo D qs cls d σ H)
/-- clauses and their readings -/
inductive HdRow (X : Cx) : List ExceptHandler → List Cls3 → Prop
  | nil : HdRow X [] []
  | cons {x n : Str} {c : Value} {i : Nat} {ts : Addr → Value → Option Addr → TS} {b₀ : Stmt} {suite : List Stmt} {np ps : Pos} {hds : List ExceptHandler} {qs : List Cls3} (nm : Names X x c) (hi : X.N[i]? = some n) (hl : X.env.kindOf n = some .local)
      (su : ∀ (a : Addr) (ob : Obj) (cls : Value) (d : Option Addr) (pn : List (Addr × Obj)), Zc cls d ob → (∃ vs, ob.data = .fields vs) → PSs (X.suite a ((a, ob) :: pn)) (b₀ :: suite) (ts a cls d)) (more : HdRow X hds qs) :
      HdRow X (.ExceptHandler (some (.Name x np)) (some n) (b₀ :: suite) ps :: hds) ((c, i, ts) :: qs)
section
variable {X : Cx} {body : List Stmt} {hds : List ExceptHandler} {qs : List Cls3} {tb : WX → TS} {Wo : WX} {pos : Pos}
theorem ps_tryRow (hst : X.stack = X.env :: X.outer) (hfr : X.env.frame = some X.env.locals) (nd : X.N.Nodup) (tk : L2.Takes X Wo)
    (hb : ∀ (W : WX) (pn : List (Addr × Obj)) (xe : Value → Shared → Prop), L2.Takes (X.tr pn xe) W → PassesOwn (model X.prog X.w) X.A X.env xe → PSs (X.tr pn xe) body (tb W))
    (hh : HdRow X hds qs) (ne : hds ≠ [] := by simp) : PS X (.Try body hds [] [] pos) (fun D σ H => tb (wRow X.K Wo D qs) D σ H) := by
  obtain ⟨h₀, hs', rfl⟩ : ∃ h₀ hs', hds = h₀ :: hs' := by
    cases hds with
    | nil => exact absurd rfl ne
    | cons a l => exact ⟨a, l, rfl⟩
  refine ⟨fun pins s σ H D I h => ?_⟩
  have okX := I.ok
  have fr0 : X.A.frames = some (X.env :: X.outer) := by rw [okX.frames, hst]
  -- what is wished of the body's exceptions: that the clauses, noted and landed, end well
  let wish : Value → Shared → Prop := fun e s₁ => wpAny (model X.prog X.w) X.A (noteFrame e X.env) (fun _ s₂ => wpAny (model X.prog X.w) X.A (setFlight e none) (fun _ s₃ => wpAny (model X.prog X.w) X.A (handleBy e X.env (h₀ :: hs')) (SP X pins D) X.xe s₃) X.xe s₂) X.xe s₁
  have takes : L2.Takes (X.tr (X.pn ++ pins) wish) (wRow X.K Wo D qs) := by
    rintro u s' ⟨a, B, sI, pins', σ', H', cls, d, rfl, J', nb, up, sky, na, os, ag, wq⟩
    have J : Inv X pins σ' H' sI := J'.ofTry okX
    have sk : Sky B (X.env :: X.outer) a (Zc cls d) X.env.locals s'.heap := by rw [← hst]; exact sky
    refine Sky.land Zc.steady fr0 hfr sk fun g3 fly up3 => ?_
    have J3 : Inv X pins σ' H' { s' with heap := g3 } := J.landed nb fly.1 (up.trans up3) os ag
    obtain ⟨ob, vs, hob, hz, hdat⟩ := fly.there
    have out : ∀ {g : Heap} {o : Obj} {us : Array Value}, g.FunFrames B (X.env :: X.outer) → g.get? a = some o → o.data = .fields us → a ∉ frs (X.env :: X.outer) := by
      intro g o us ff eo du mem
      obtain ⟨_, o2, e2, nf⟩ := ff.mem mem
      rw [eo] at e2
      cases e2
      exact nf _ du
    have aOut := out fly.2.2.1 hob hdat
    have aL : a ≠ X.env.locals := fun z => aOut (List.mem_filterMap.mpr ⟨_, List.mem_cons_self, by rw [hfr, z]⟩)
    have aF : a ∉ X.fs := fun mem => by
      obtain ⟨e, me, q⟩ := List.mem_filterMap.mp mem
      exact aOut (List.mem_filterMap.mpr ⟨_, List.mem_cons_of_mem _ me, q⟩)
    have S3 := J3.suite hob hdat na aL aF
    have LT : PySem.W.Looks (model X.prog X.w) g3 (typeOf (.ref a)) cls := fun A Q E s k q => wpAny_typeOf_ref (k _ _ hob) (by rw [hz.1]; exact q)
    have go : ∀ {l : List ExceptHandler} {m : List Cls3}, HdRow X l m → wRow X.K Wo D m cls d σ' H' → wpAny (model X.prog X.w) X.A (handleBy (.ref a) X.env l) (SP X pins D) X.xe { s' with heap := g3 } := by
      intro l m hk
      induction hk with
      | nil =>
        intro wo
        obtain ⟨_, _, _, o1, v1, T, _, _, e1, _, d1, i1, _⟩ := id fly
        have on : wpAny (model X.prog X.w) X.A (setFlight (.ref a) X.env.frame) (fun _ s4 => wpAny (model X.prog X.w) X.A (throw (.ref a) : Sem Flow) (SP X pins D) X.xe s4) X.xe { s' with heap := g3 } := by
          rw [hfr]
          exact HandSPX.setFlight_upZ fly fun g4 held up4 => wpAny_throw (tk _ _ ⟨a, B, sI, pins, σ', H', cls, d, rfl, J, nb, (up.trans up3).trans up4, .inr (.inr (by rw [hst]; exact held)), na, os, ag, wo⟩)
        refine wpAny_handleBy_nil ?_
        unfold PySem.passOn
        refine wpAny_bind (wpAny_field e1 d1 i1 ?_)
        rw [if_neg (by simp : ¬ ((Value.ref T == Value.none) = true))]
        first | exact wpAny_bind (wpAny_pure (wpAny_bind on)) | exact wpAny_bind on
      | @cons x n c i ts b₀ suite np ps hds2 qs2 nm hi hl su more ih =>
        rintro ⟨b, hm, yes, no⟩
        refine wpAny_handleBy_cons (codeAny_handlers_test ?_) (by intro q; cases q)
        have LM := PySem.W.exm_one (M := model X.prog X.w) J3.kIn LT hm
        have named : ∀ {Q E : Value → Shared → Prop}, Q c { s' with heap := g3 } → wpAny (model X.prog X.w) (X.A.mark (some (.ref a))) (eval (.Name x np) X.env) Q E { s' with heap := g3 } := by
          intro Q E q
          rcases nm with ⟨gl, db, m1 | ⟨m1, m2, m3⟩⟩
          · exact ld_glob (X := X.suite a ((a, ob) :: (X.pn ++ pins))) S3 gl m1 q db
          · exact ld_blt (X := X.suite a ((a, ob) :: (X.pn ++ pins))) S3 gl m1 m2 q m3 db
        refine named (LM.here ?_)
        cases b with
        | false => exact ih (no rfl)
        | true =>
          refine codeAny_handlers_suite_as (HandSPX.lands_againZ fly fun g4 fly4 up4 => ?_)
          have J4 : Inv X pins σ' H' { s' with heap := g4 } := J.landed nb fly4.1 ((up.trans up3).trans up4) os ag
          obtain ⟨ob4, vs4, hob4, hz4, hd4⟩ := fly4.there
          have S4 := J4.suite hob4 hd4 na aL aF
          refine store_ok (X := X.suite a ((a, ob4) :: (X.pn ++ pins))) (v := .ref a) S4 nd hi (.inl hl) rfl (fun s5 S5 => ?_) (.inr hl)
          refine wpAny_mono ((su a ob4 cls d (X.pn ++ pins) hz4 ⟨_, hd4⟩).run [] s5 _ H' _ S5 (yes rfl a na)) (fun fl s6 hsp => ?_) (fun _ _ z => z.elim)
          have last : ∀ {σ6 : L2.St} {H6 : Hp} {Q : Shared → Prop}, Inv (X.suite a ((a, ob4) :: (X.pn ++ pins))) [] σ6 H6 s6 → (∀ s7, Inv X pins (σ6.set i none) H6 s7 → Q s7) → wpAny (model X.prog X.w) X.A (do bindName X.env n .none; unbindBehindTheSuite X.env n ps) (fun _ s7 => Q s7) X.xe s6 :=
            fun S6 hq => gone_ok (S6.unsuite okX) nd hi hl hq
          rcases fl with _ | _ | _ | u
          all_goals first
            | (obtain ⟨σ6, H6, S6, q6⟩ := hsp; exact last S6 fun s7 J7 => ⟨_, _, J7, q6⟩)
            | (obtain ⟨v6, σ6, H6, S6, r6, q6⟩ := hsp; exact last S6 fun s7 J7 => ⟨_, _, _, J7, r6, q6⟩)
    exact go hh wq
  refine wpAny_Try_except (wpAny_mono ((hb _ (X.pn ++ pins) wish takes PassesOwn.looking).run [] s σ H D (I.toTry _) h) (fun fl s1 hsp => ?_) (fun e s1 he => he))
  rcases fl with _ | _ | _ | u
  all_goals first
    | (obtain ⟨σ', H', J', q⟩ := hsp; exact wpAny_execs_nil ⟨σ', H', J'.ofTry okX, q⟩)
    | (obtain ⟨σ', H', J', q⟩ := hsp; exact ⟨σ', H', J'.ofTry okX, q⟩)
    | (obtain ⟨v, σ', H', J', rv, q⟩ := hsp; exact ⟨v, σ', H', J'.ofTry okX, rv, q⟩)
end
section
variable {H0 : Hp} {ρ : Env1} {pos : Pos} {D : Ends} {sts : List Stmt}
variable {P : Program} {w : World} {K : PySem.W.Frag} {mg : Str → Option Value} {base : Heap} {k : Nat}
/-- try: body, except x1 as n1: .., except x2 as n2: .. -/
theorem ws_try2 {Y : Cx} {c1 c2 : Value} {i1 i2 : Nat} {x1 n1 x2 n2 : Str} {body s1 s2 : List Stmt} {b1 b2 : Stmt} {np1 np2 q1 q2 : Pos} {Wo : WX} (tk : L2.Takes Y Wo) (hA : ∀ i, At ((fun _ : Unit => Y) i) P w K mg base k) (m1 : mg x1 = some c1) (m2 : mg x2 = some c2) (nd : Y.N.Nodup) (hi1 : Y.N[i1]? = some n1) (hi2 : Y.N[i2]? = some n2)
    (h : ∀ W, (∀ cls d σ H, PySem.W.exmOne K cls c1 = some true → (∀ a, H a = none → uB (suF Y a cls d) (b1 :: s1) (EndsX i1 { D with nx := fun σ H => uB (fun _ : Unit => Y) sts D σ H }) (σ.set i1 (some (.ref a))) H) → W cls d σ H) →
      (∀ cls d σ H, PySem.W.exmOne K cls c1 = some false → PySem.W.exmOne K cls c2 = some true → (∀ a, H a = none → uB (suF Y a cls d) (b2 :: s2) (EndsX i2 { D with nx := fun σ H => uB (fun _ : Unit => Y) sts D σ H }) (σ.set i2 (some (.ref a))) H) → W cls d σ H) →
      WS (trF Y W) H0 ρ body { D with nx := fun σ H => uB (fun _ : Unit => Y) sts D σ H })
    (hs : Y.stack = Y.env :: Y.outer := by rfl) (hf : Y.env.frame = some Y.env.locals := by rfl) (hl1 : Y.env.kindOf n1 = some .local := by rfl) (hl2 : Y.env.kindOf n2 = some .local := by rfl) (hg1 : Gl Y x1 := by rfl) (hg2 : Gl Y x2 := by rfl)
    (hd1 : (x1 == ("__debug__" : Str)) = false := by decide) (hd2 : (x2 == ("__debug__" : Str)) = false := by decide) :
    WS (fun _ : Unit => Y) H0 ρ (.Try body [.ExceptHandler (some (.Name x1 np1)) (some n1) (b1 :: s1) q1, .ExceptHandler (some (.Name x2 np2)) (some n2) (b2 :: s2) q2] [] [] pos :: sts) D := .mk fun σ H s r => by
  have hK : Y.K = K := (hA ()).K
  have e1 : Y.mg x1 = some c1 := by rw [(hA ()).mg]; exact m1
  have e2 : Y.mg x2 = some c2 := by rw [(hA ()).mg]; exact m2
  refine wb_cons (fun _ => ps_tryRow (tb := fun W D σ H => uB (trF Y W) body D σ H) (qs := [(c1, i1, fun a cls d D σ H => uB (suF Y a cls d) (b1 :: s1) D σ H), (c2, i2, fun a cls d D σ H => uB (suF Y a cls d) (b2 :: s2) D σ H)]) hs hf nd tk (fun W pn xe t po => pb_u (X := trF Y W) ⟨(pn, xe), t, po⟩)
    (.cons ⟨hg1, hd1, .inl e1⟩ hi1 hl1 (fun a oe cls d pn hz hd => pb_u (X := suF Y a cls d) ⟨(oe, pn), hz, hd⟩) (.cons ⟨hg2, hd2, .inl e2⟩ hi2 hl2 (fun a oe cls d pn hz hd => pb_u (X := suF Y a cls d) ⟨(oe, pn), hz, hd⟩) .nil))) ?_
  refine (h _ (fun cls d σ' H' hb q => ?_) (fun cls d σ' H' hb hb2 q => ?_)).run σ H s r
  · refine ⟨true, ?_, fun _ a na => q a na, fun e => by cases e⟩
    rw [hK]
    exact hb
  · refine ⟨false, ?_, (fun e => by cases e), fun _ => ⟨true, ?_, fun _ a na => q a na, fun e => by cases e⟩⟩
    · rw [hK]
      exact hb
    · rw [hK]
      exact hb2
end
end SW

set_option Elab.async false
set_option linter.all false
set_option maxRecDepth 100000
set_option maxHeartbeats 4000000
/-! SwIs: isinstance of the exception that an except suite holds, with or without a dict. -/
namespace PySem.W
open PySem PySem.Spec PySem.Calls PyProof.Rows
theorem kitx_swE {K : Frag} {x D : Addr} (C : L2.ExcC K D) : KitX K (.ref x) (.ref D) (fun h => ∃ ox od, InstAt h x ox D od) := by
  obtain ⟨cdD, hcD, _⟩ := any_some C.hd
  have cls : ∃ c' d' sl', K.lookup D = some ⟨c', d', .cls cdD, sl'⟩ := by
    unfold clsIn at hcD
    split at hcD
    · rename_i c' d' cd' sl' ho
      cases hcD
      exact ⟨_, _, _, ho⟩
    · cases hcD
  obtain ⟨c', d', sl', ho⟩ := cls
  refine ⟨fun _ _ _ ⟨_, _, I⟩ => I.type, fun _ _ X _ => ?_, fun h tp dd its n sl X htp => ?_, fun X ⟨_, _, I⟩ k => ?_⟩
  · intro A' Q' E' s' k q
    unfold isType loadHead
    exact wpAny_bind (wpAny_loadPart (k _ _ (X _ _ ho)) (wpAny_pure q))
  · refine Bool.eq_false_iff.mpr fun q => ?_
    have e : D = tp := Value.ref.inj (beq_iff_eq.mp q)
    subst e
    have z := (X _ _ ho).symm.trans htp
    cases z
  · exact kx_classE X I C.hg C.hk C.hs (findObj_dataE (by rw [hcD] <;> rfl) C.ha C.hn C.ht) C.hm k
end PySem.W
namespace SW
open PySem PySem.Spec PyProof.Rows
open L2 hiding Same
/-- isinstance(e, c), e the exception that the suite holds, its dict in hand -/
def rIsA (K : PySem.W.Frag) (D a : Addr) (d : Option Addr) : List V → Hp → VK → Prop := fun xs H Q => (∀ dx, d = some dx → ∃ fs, H dx = some (.xd fs)) ∧ L2.rIsE K D a xs H Q
theorem call_isA {X : Cx} {a D : Addr} {d : Option Addr} {oe : Obj} {pn : List (Addr × Obj)} (C : ExcC X.K D) (hz : Zc (.ref D) d oe) (hf : ∃ vs, oe.data = .fields vs) : CallR (X.suite a ((a, oe) :: pn)) (.builtin "isinstance") (rIsA X.K D a d) := by
  intro pins s σ H xs us Q I r h
  obtain ⟨hd, c, cv, b, rfl, hcv, e, q⟩ := h
  cases r with
  | cons rx rr =>
    cases rr with
    | cons rt rr =>
      cases rr
      cases rx
      have ec := hcv _ rt
      subst ec
      obtain ⟨hget, _⟩ := I.pin (a, oe) (List.mem_append.mpr (.inl List.mem_cons_self))
      obtain ⟨vs, hv⟩ := hf
      have J : ∃ ox od, PySem.W.InstAt s.heap a ox D od := by
        obtain ⟨oc, odi, oda, osl⟩ := oe
        obtain ⟨h1, h2⟩ := hz
        dsimp only at h1 h2 hv
        subst h1 h2 hv
        cases odi with
        | none => exact ⟨_, none, hget, rfl, rfl, trivial⟩
        | some dx =>
          obtain ⟨fs, hx⟩ := hd dx rfl
          obtain ⟨mA, ⟨o, es, ep, ho, _⟩, _⟩ := (show ObjOk X.prog X.w H s.heap dx (.xd fs) from I.hok dx _ hx)
          exact ⟨_, some o, hget, rfl, rfl, ho⟩
      exact PySem.W.kia_one (PySem.W.kitx_swE C) I.kIn J e (fun z => nomatch z) fun tk => ⟨.bl b, H, I.kept (t' := tk) fun _ _ z => z, rfl, q⟩
variable [Nm]
section
variable {H0 : Hp} {ρ : Env1} {e : Expr} {pos p p2 : Pos} {Y : Cx} {a D : Addr} {d : Option Addr} {j : Nat} {y : Str}
variable {P : Program} {w : World} {K : PySem.W.Frag} {mg : Str → Option Value} {base : Heap} {k : Nat}
/-- isinstance(e, y), e the suite's exception -/
theorem ev_isE {c : V} {cv : Value} {b : Bool} (hA : At Y P w K mg base k) (C : ExcC K D) (hm : mg "isinstance" = none) (pc : ∀ i, PE (suF Y a (.ref D) d i) (.Name y p2) (tC c)) (hc : ∀ u, L2.RelV c u → u = cv) (hk : PySem.W.kitOne K (.ref D) cv = some b)
    (he : ∀ i, PE (suF Y a (.ref D) d i) e (tVar j)) (hj : ρ[j]? = some (some (.raw (.ref a)))) (hd : ∀ dx, d = some dx → ∃ fs, H0 dx = some (.xd fs))
    (hg : ∀ i, Gl (suF Y a (.ref D) d i) "isinstance" := by intro _; rfl)
    (hs : ∀ i, starEach [e, .Name y p2] (suF Y a (.ref D) d i).env = (false, eval e (suF Y a (.ref D) d i).env) :: starEach [.Name y p2] (suF Y a (.ref D) d i).env := by intro _; rfl) (hs' : ∀ i, starEach [.Name y p2] (suF Y a (.ref D) d i).env = (false, eval (.Name y p2) (suF Y a (.ref D) d i).env) :: starEach [] (suF Y a (.ref D) d i).env := by intro _; rfl)
    (hpl : ∀ i, (backTo pos (starEach [.Name y p2] (suF Y a (.ref D) d i).env)).any (·.1) = false := by intro _; rfl) :
    EV (suF Y a (.ref D) d) H0 ρ (.Call (.Name "isinstance" p) [e, .Name y p2] [] pos) (.bool b) := .mk fun σ H s r H1 Q s1 q => by
  obtain ⟨rfl, rfl, rfl, rfl, rfl, _, hr⟩ := hA
  exact ⟨_, fun i => pe_callB (X := suF Y a (.ref D) d i) (call_isA C i.2.1 i.2.2) (hg i) hm (by decide +kernel) (pa_cons (he i) (pa_cons (pc i) pa_nil (hs' i)) (hs i)) (by decide) (by decide) (hs i) (hpl i),
    .ref a, r.getRaw hj, fun dx e1 => (hd dx e1).elim fun fs h => ⟨fs, (s.trans s1).at_ _ _ h rfl⟩, c, cv, b, rfl, hc, hk, q _ H1 _ (Same.refl _) (.bl _) rfl⟩
end
end SW

set_option Elab.async false
set_option linter.all false
set_option maxRecDepth 100000
set_option maxHeartbeats 2000000
/-! SwHi: what a head must say of exception classes of which isinstance asks, as one Bool. -/
namespace SW
open PySem
open L2 hiding Same
def excB (K : PySem.W.Frag) (D : Addr) : Bool := He.eqO (PySem.W.findIn K (.ref D) "__getattribute__") (some (some (.builtin "BaseException.__getattribute__"))) && (He.eqO (PySem.W.findIn K (.ref D) "__getattr__") (some none) && (decide (PySem.W.subIn K (.ref D) (.type "BaseException") = some true) && (PySem.W.hasDictIn K D && (He.eqO (PySem.W.findIn K (.ref D) "__class__") (some (some (.builtin "object.__class__"))) && (He.eqO (PySem.W.specialIn K (.builtin "object.__class__") "__get__") (some (some (.builtin "getset_descriptor.__get__"))) && (decide (PySem.W.takesIn K (.builtin "object.__class__") = some true) && decide (PySem.W.mroIn K D (.type "object") = some true)))))))
theorem excB_ok {K : PySem.W.Frag} {D : Addr} (h : excB K D = true) : ExcC K D := by
  obtain ⟨h1, h⟩ := Bool.and_eq_true_iff.mp h
  obtain ⟨h2, h⟩ := Bool.and_eq_true_iff.mp h
  obtain ⟨h3, h⟩ := Bool.and_eq_true_iff.mp h
  obtain ⟨h4, h⟩ := Bool.and_eq_true_iff.mp h
  obtain ⟨h5, h⟩ := Bool.and_eq_true_iff.mp h
  obtain ⟨h6, h⟩ := Bool.and_eq_true_iff.mp h
  obtain ⟨h7, h8⟩ := Bool.and_eq_true_iff.mp h
  exact ⟨He.eqO_ok h1, He.eqO_ok h2, of_decide_eq_true h3, h4, He.eqO_ok h5, He.eqO_ok h6, of_decide_eq_true h7, of_decide_eq_true h8⟩
/-- the classes Cs, all under E: which is which -/
def isB (K : PySem.W.Frag) (E : Addr) (Cs : List Addr) : Bool := (Cs.all fun C => decide (PySem.W.exmOne K (.ref C) (.ref E) = some true) && (excB K C && Cs.all fun D => decide (PySem.W.kitOne K (.ref C) (.ref D) = some (decide (C = D))))) && decide Cs.Nodup
theorem isB_ok {K : PySem.W.Frag} {E : Addr} {Cs : List Addr} (h : isB K E Cs = true) : (∀ C ∈ Cs, PySem.W.exmOne K (.ref C) (.ref E) = some true) ∧ (∀ C ∈ Cs, ExcC K C) ∧ (∀ C ∈ Cs, ∀ D ∈ Cs, PySem.W.kitOne K (.ref C) (.ref D) = some (decide (C = D))) ∧ Cs.Nodup := by
  obtain ⟨h1, h2⟩ := Bool.and_eq_true_iff.mp h
  have z := List.all_eq_true.mp h1
  refine ⟨fun C hC => ?_, fun C hC => ?_, fun C hC D hD => ?_, of_decide_eq_true h2⟩
  · exact of_decide_eq_true (Bool.and_eq_true_iff.mp (z C hC)).1
  · exact excB_ok (Bool.and_eq_true_iff.mp (Bool.and_eq_true_iff.mp (z C hC)).2).1
  · exact of_decide_eq_true (List.all_eq_true.mp (Bool.and_eq_true_iff.mp (Bool.and_eq_true_iff.mp (z C hC)).2).2 D hD)
end SW

set_option Elab.async false
set_option linter.all false
set_option maxRecDepth 100000
set_option maxHeartbeats 0
namespace SK
open PySem SW PySem.Spec PyProof.Rows
open L2 hiding Same
open LamX (TabB)
def dd (x : Str) (i : Nat) : He.DefD := ⟨(x, none), x, x, defArgs (top i), defBody (top i), defScope (top i), [], []⟩
theorem df_of {K : PySem.W.Frag} {mg : Str → Option Value} {x : Str} {st : Stmt} {ps : List Str} {f : Addr} {fd : FuncData} (F : FunD K x x (defArgs st) (defBody st) (defScope st) [] [] f fd) (hm : mg x = some (.ref f))
    (h : ∀ (kV doc pm : Value) (an : Option Addr) (cdv ct : Value) (us : List Value), us.length = ps.length → bindArgs (PySem.W.fnOf x x (defArgs st) (defBody st) (defScope st) .none kV doc pm an cdv ct) ⟨us, []⟩ = pure (ps.zip us)) : Df K mg x st ps := by
  have b := F.bindsN h
  obtain ⟨oc, od, dV, kV, doc, pm, an, cdv, ct, osl, rfl, lk, hcd, hD, hK⟩ := F.ex
  rcases hD with ⟨_, rfl⟩ | ⟨e, _⟩
  · exact ⟨f, _, ⟨⟨oc, od, kV, doc, pm, an, cdv, ct, osl, rfl, lk, hcd⟩, F.kp⟩, hm, b⟩
  · exact absurd rfl e
theorem fun_of {K : PySem.W.Frag} {x : Str} {st : Stmt} {f : Addr} {fd : FuncData} (F : FunD K x x (defArgs st) (defBody st) (defScope st) [] [] f fd) : Fun K x x st f fd := by
  obtain ⟨oc, od, dV, kV, doc, pm, an, cdv, ct, osl, rfl, lk, hcd, hD, hK⟩ := F.ex
  rcases hD with ⟨_, rfl⟩ | ⟨e, _⟩
  · exact ⟨⟨oc, od, kV, doc, pm, an, cdv, ct, osl, rfl, lk, hcd⟩, F.kp⟩
  · exact absurd rfl e
theorem dfc_of {K : PySem.W.Frag} {mg : Str → Option Value} {x : Str} {st : Stmt} {ps : List Str} {fd : FuncData} (F : FunD K x x (defArgs st) (defBody st) (defScope st) [] [] (He.fAd K (x, none)) fd) (hm : mg x = some (.ref (He.fAd K (x, none))))
    (h : ∀ (kV doc pm : Value) (an : Option Addr) (cdv ct : Value) (us : List Value), us.length = ps.length → bindArgs (PySem.W.fnOf x x (defArgs st) (defBody st) (defScope st) .none kV doc pm an cdv ct) ⟨us, []⟩ = pure (ps.zip us)) : DfC K mg x st ps (He.codeOf K (x, none)) := by
  have b := F.bindsN h
  obtain ⟨oc, od, dV, kV, doc, pm, an, cdv, ct, osl, rfl, lk, hcd, hD, hK⟩ := F.ex
  rcases hD with ⟨_, rfl⟩ | ⟨e, _⟩
  · obtain ⟨c, rfl⟩ := He.codeIn_ref hcd
    rw [He.codeOf_eq lk (c := c) rfl]
    exact ⟨_, oc, od, kV, doc, pm, an, ct, osl, lk, hcd, F.kp, hm, b⟩
  · exact absurd rfl e
theorem ini_of {K : PySem.W.Frag} {mg : Str → Option Value} {x q : Str} {st : Stmt} {ps fs : List Str} {fd : FuncData} (F : FunD K "__init__" q (defArgs st) (defBody st) (defScope st) [] [] (He.ma K (He.ga K x) "__init__") fd) (hm : mg x = some (.ref (He.ga K x))) (c : (oexK K (He.ga K x) && (xfB K (He.ga K x) && iniK K (He.ga K x) fs)) = true)
    (h : ∀ (kV doc pm : Value) (an : Option Addr) (cdv ct : Value) (us : List Value), us.length = ps.length → bindArgs (PySem.W.fnOf "__init__" q (defArgs st) (defBody st) (defScope st) .none kV doc pm an cdv ct) ⟨us, []⟩ = pure (ps.zip us)) : IniF K mg x q st ps fs := by
  have b := F.bindsN h
  obtain ⟨c1, c⟩ := Bool.and_eq_true_iff.mp c
  obtain ⟨c2, c3⟩ := Bool.and_eq_true_iff.mp c
  obtain ⟨d1, d2, d3⟩ := iniK_ok c3
  obtain ⟨oc, od, dV, kV, doc, pm, an, cdv, ct, osl, rfl, lk, hcd, hD, hK⟩ := F.ex
  rcases hD with ⟨_, rfl⟩ | ⟨e, _⟩
  · exact ⟨_, _, _, oexK_ok c1, xfB_ok c2, hm, d1, d2, ⟨⟨oc, od, kV, doc, pm, an, cdv, ct, osl, rfl, lk, hcd⟩, F.kp⟩, b, d3⟩
  · exact absurd rfl e
def ddM (x m q : Str) (st : Stmt) : He.DefD := ⟨(x, some m), m, q, defArgs st, defBody st, defScope st, [], []⟩
def fnL : List He.DefD := [dd "is_number" 10, dd "check_number" 11, dd "check_prime" 12, dd "is_pair" 13, dd "is_order" 14, dd "wrong_in_web" 15, dd "check_web" 16, dd "wrong_in_net" 17, dd "check_net" 18, dd "_are_steps" 19, dd "_are_ways" 20, dd "_is_way" 21, dd "_ascends" 22, dd "is_web" 24, dd "ways" 25, dd "factors" 26, dd "times" 27, dd "multiples" 28, dd "least_multiple" 29, dd "are_multiples" 30, dd "turned" 31, dd "is_two_way" 32, dd "_multiplied" 33, dd "is_net" 35, dd "net_of" 36, dd "likeness" 37, dd "are_alike" 38, dd "shows_likeness" 39, dd "count_symmetries" 40, dd "is_even" 41, dd "join_table" 42, dd "_check_two" 43, dd "_led" 44, dd "_first_rooms" 45, dd "_rooms_left" 46, dd "_places" 47, dd "_unlike_places" 48, dd "_are_twins" 49, dd "_count_reached" 50, dd "keepers" 52, dd "count_plain" 53, dd "is_plain" 54, dd "symmetries" 55, dd "ring" 57, dd "shows_ring" 58, dd "steps_along" 59, dd "_ways_along" 60, dd "_completed" 61, dd "_last_fits" 62, dd "write_web" 64, dd "_law_taken" 66, dd "_law_pick" 67, dd "_law_divisor" 68, dd "_law_web" 69, dd "_law_net" 70, dd "_law_error" 71, dd "_law_web_calls" 72, dd "_law_net_calls" 73, dd "law" 74, ddM "BadWeb" "__init__" "BadWeb.__init__" (clsAt (top 3) 0), ddM "BadNet" "__init__" "BadNet.__init__" (clsAt (top 4) 0)]
def faL : List He.Fa := [.glo "is_number", .glo "check_number", .glo "check_prime", .glo "is_pair", .glo "is_order", .glo "wrong_in_web", .glo "check_web", .glo "wrong_in_net", .glo "check_net", .glo "_are_steps", .glo "_are_ways", .glo "_is_way", .glo "_ascends", .glo "is_web", .glo "ways", .glo "factors", .glo "times", .glo "multiples", .glo "least_multiple", .glo "are_multiples", .glo "turned", .glo "is_two_way", .glo "_multiplied", .glo "is_net", .glo "net_of", .glo "likeness", .glo "are_alike", .glo "shows_likeness", .glo "count_symmetries", .glo "is_even", .glo "join_table", .glo "_check_two", .glo "_led", .glo "_first_rooms", .glo "_rooms_left"] ++ [.glo "_places", .glo "_unlike_places", .glo "_are_twins", .glo "_count_reached", .glo "keepers", .glo "count_plain", .glo "is_plain", .glo "symmetries", .glo "ring", .glo "shows_ring", .glo "steps_along", .glo "_ways_along", .glo "_completed", .glo "_last_fits", .glo "write_web", .glo "_law_taken", .glo "_law_pick", .glo "_law_divisor", .glo "_law_web", .glo "_law_net", .glo "_law_error", .glo "_law_web_calls", .glo "_law_net_calls", .glo "law", .free "isinstance", .free "int", .free "bool", .free "any", .free "range", .free "tuple", .free "len", .free "all", .free "set", .free "zip", .free "sorted", .free "min", .free "str", .free "max", .int "MOST_HALLS" 13, .glo "WebError", .exc "WebError", .exm "WebError" "WebError" true, .glo "BadWeb", .glo "BadNet", .free "ValueError", .glo "BadNumber", .exc "BadNumber", .exm "BadNumber" "BadNumber" true, .glo "NotPrime", .exc "NotPrime", .exm "NotPrime" "NotPrime" true, .glo "Unlike", .exc "Unlike", .exm "Unlike" "Unlike" true]
def tfL : List He.Defn := [("law", none), ("_law_web_calls", none), ("_law_net_calls", none)]
abbrev R : PySem.W.OpenRow := PySem.W.OpenLaw.row PySem.Challenge.rw_stepwebs_k10_all_refused
abbrev exL : PySem.W.Frag → Bool := fun K => (He.eqO (PySem.W.nsIn K mainGlobals "gcd") (some (some (.builtin "math.gcd"))) && true) && ((oexK K (He.ga K "BadWeb") && (xfB K (He.ga K "BadWeb") && iniK K (He.ga K "BadWeb") ["part"])) && ((oexK K (He.ga K "BadNet") && (xfB K (He.ga K "BadNet") && iniK K (He.ga K "BadNet") ["part"])) && ((isB K (He.ga K "WebError") [He.ga K "BadWeb", He.ga K "BadNet", He.ga K "BadNumber", He.ga K "NotPrime", He.ga K "Unlike"] && decide (PySem.W.kitOne K (.ref (He.ga K "BadWeb")) (.type "ValueError") = some true)))))
abbrev hk : PySem.W.Hook := He.hookX 4 faL fnL [] tfL exL
def ob (s : PySem.W.SharedT) : He.AlX := He.obsX 4 faL fnL [] tfL exL (HandSHeadRun.getT s)
theorem ob_eq (s : PySem.W.SharedT) : ob s = hk.obs s.abs := He.obsX_eq (HandSHeadRun.getT_eq s)
def looseL : List PySem.Str := (["WebError", "BadWeb", "BadNet", "BadNumber", "NotPrime", "Unlike", "MOST_HALLS", "is_number", "check_number", "check_prime", "is_pair", "is_order", "wrong_in_web", "check_web", "wrong_in_net", "check_net", "_are_steps", "_are_ways", "_is_way", "_ascends"] : List PySem.Str) ++ (["is_web", "ways", "factors", "times", "multiples", "least_multiple", "are_multiples", "turned", "is_two_way", "_multiplied", "is_net", "net_of", "likeness", "are_alike", "shows_likeness", "count_symmetries", "is_even", "join_table", "_check_two", "_led"] : List PySem.Str) ++ (["_first_rooms", "_rooms_left", "_places", "_unlike_places", "_are_twins", "_count_reached", "keepers", "count_plain", "is_plain", "symmetries", "ring", "shows_ring", "steps_along", "_ways_along", "_completed", "_last_fits", "write_web", "_law_taken", "_law_pick", "_law_divisor"] : List PySem.Str) ++ (["_law_web", "_law_net", "_law_error", "_law_web_calls", "_law_net_calls"] : List PySem.Str)
theorem run (w : World) : HandSHeadRun.RunEqI R (PySem.W.view R.prog [0, 74]) hk ob 20000 looseL w := by
  unfold HandSHeadRun.RunEqI
  kernel_rfl
end SK

set_option Elab.async false
set_option linter.all false
set_option maxRecDepth 100000
set_option maxHeartbeats 1000000
namespace SK
open PySem SW
open L2 hiding Same
theorem bt_isinstance : bootBuiltins "isinstance" = some (.builtin "isinstance") := by decide +kernel
theorem bt_int : bootBuiltins "int" = some (.type "int") := by decide +kernel
theorem bt_bool : bootBuiltins "bool" = some (.type "bool") := by decide +kernel
theorem bt_tuple : bootBuiltins "tuple" = some (.type "tuple") := by decide +kernel
local macro_rules | `(tactic| walk_at "var") => `(tactic| first | exact ev_var (fun _ => pv 0) rfl | exact ev_var (fun _ => pv 1) rfl | exact ev_var (fun _ => pv 2) rfl | exact ev_var (fun _ => pv 3) rfl | exact ev_var (fun _ => pv 4) rfl | exact ev_var (fun _ => pv 5) rfl | exact ev_var (fun _ => pv 6) rfl)
local macro_rules | `(tactic| walk_at "ev") => `(tactic| first | with_reducible exact ev_int | with_reducible exact ev_str | with_reducible exact ev_bl | with_reducible exact ev_non | (with_reducible show EV _ _ _ (Expr.BinOp _ Operator.Add _ _) _; exact ev_add (by walk_at "ev") (by walk_at "ev")) | (with_reducible show EV _ _ _ (Expr.BinOp _ Operator.Sub _ _) _; exact ev_sub (by walk_at "ev") (by walk_at "ev")) | walk_at "var")
/-! ### what the checks answer -/
def isNum (d : PyData) (lo hi : Int) : Bool := match d with
  | .int i => decide (lo ≤ i) && decide (i ≤ hi)
  | _ => false
def isIntB : PyData → Bool
  | .int _ => true | .bool _ => true | _ => false
def isBool : PyData → Bool
  | .bool _ => true | _ => false
def isTup : PyData → Bool
  | .tuple _ => true | _ => false
theorem kb1 : kitB "NoneType" "int" = some false ∧ kitB "bool" "int" = some true ∧ kitB "int" "int" = some true ∧ kitB "str" "int" = some false ∧ kitB "list" "int" = some false ∧ kitB "tuple" "int" = some false := by decide +kernel
theorem kb2 : kitB "NoneType" "bool" = some false ∧ kitB "bool" "bool" = some true ∧ kitB "int" "bool" = some false ∧ kitB "str" "bool" = some false ∧ kitB "list" "bool" = some false ∧ kitB "tuple" "bool" = some false := by decide +kernel
theorem kb3 : kitB "NoneType" "tuple" = some false ∧ kitB "bool" "tuple" = some false ∧ kitB "int" "tuple" = some false ∧ kitB "str" "tuple" = some false ∧ kitB "list" "tuple" = some false ∧ kitB "tuple" "tuple" = some true := by decide +kernel
theorem kbD : kitB "dict" "int" = some false ∧ kitB "dict" "bool" = some false ∧ kitB "dict" "tuple" = some false := by decide +kernel
theorem kit_int (d : PyData) (h : noDict d = true) : kitB (tyN d) "int" = some (isIntB d) := match d, h with
  | .none, _ => kb1.1 | .bool _, _ => kb1.2.1 | .int _, _ => kb1.2.2.1 | .str _, _ => kb1.2.2.2.1 | .list _, _ => kb1.2.2.2.2.1 | .tuple _, _ => kb1.2.2.2.2.2 | .dict _, _ => kbD.1
theorem kit_bool (d : PyData) (h : noDict d = true) : kitB (tyN d) "bool" = some (isBool d) := match d, h with
  | .none, _ => kb2.1 | .bool _, _ => kb2.2.1 | .int _, _ => kb2.2.2.1 | .str _, _ => kb2.2.2.2.1 | .list _, _ => kb2.2.2.2.2.1 | .tuple _, _ => kb2.2.2.2.2.2 | .dict _, _ => kbD.2.1
theorem kit_tuple (d : PyData) (h : noDict d = true) : kitB (tyN d) "tuple" = some (isTup d) := match d, h with
  | .none, _ => kb3.1 | .bool _, _ => kb3.2.1 | .int _, _ => kb3.2.2.1 | .str _, _ => kb3.2.2.2.1 | .list _, _ => kb3.2.2.2.2.1 | .tuple _, _ => kb3.2.2.2.2.2 | .dict _, _ => kbD.2.2
def isPairD : PyData → Bool
  | .tuple [_, _] => true
  | _ => false
def isWayD (d : PyData) (halls : Int) : Bool := match d with
  | .tuple [a, b] => isNum a 0 (halls - 1) && (isNum b 0 (halls - 1) && !PyData.eqv a b)
  | _ => false
def intOf : PyData → Int
  | .int i => i | _ => 0
def isIntD : PyData → Bool
  | .int _ => true | _ => false
def ltD : PyData → PyData → Bool
  | .int i, .int j => decide (i < j)
  | .tuple xs, .tuple ys => HT.lexLt (xs.map intOf) (ys.map intOf)
  | _, _ => false
def isIntT : PyData → Bool
  | .tuple xs => xs.all isIntD | _ => false
def ascD (xs : List PyData) : Bool := (xs.zip (xs.drop 1)).all fun p => ltD p.1 p.2
def areSteps (d : PyData) (halls : Int) : Bool := match d with
  | .tuple xs => xs.all (fun x => isNum x 1 (halls - 1)) && ascD xs
  | _ => false
def areWays (d : PyData) (halls : Int) : Bool := match d with
  | .tuple xs => xs.all (fun x => isWayD x halls) && ascD xs
  | _ => false
def wrongWeb : PyData → Str
  | .tuple [h, s] => if isNum h 2 13 then (if areSteps s (intOf h) then "" else "steps") else "halls"
  | _ => "whole"
def wrongNet : PyData → Str
  | .tuple [h, s] => if isNum h 1 13 then (if areWays s (intOf h) then "" else "ways") else "halls"
  | _ => "whole"
def f_is_number : List PyData → Option PyData
  | [d, .int lo, .int hi] => some (.bool (isNum d lo hi))
  | _ => none
def f_is_pair : List PyData → Option PyData
  | [d] => some (.bool (isPairD d))
  | _ => none
def f_is_way : List PyData → Option PyData
  | [d, .int h] => some (.bool (isWayD d h))
  | _ => none
def f_ascends : List PyData → Option PyData
  | [.tuple xs] => if xs.all isIntD || xs.all isIntT then some (.bool (ascD xs)) else none
  | _ => none
def f_are_steps : List PyData → Option PyData
  | [d, .int h] => some (.bool (areSteps d h))
  | _ => none
def f_are_ways : List PyData → Option PyData
  | [d, .int h] => some (.bool (areWays d h))
  | _ => none
def f_wrong_in_web : List PyData → Option PyData
  | [d] => some (.str (wrongWeb d))
  | _ => none
def f_wrong_in_net : List PyData → Option PyData
  | [d] => some (.str (wrongNet d))
  | _ => none
def f_check_web : List PyData → Option PyData
  | [d] => if wrongWeb d = "" then some .none else none
  | _ => none
def f_check_number : List PyData → Option PyData
  | [d, .int lo, .int hi] => if isNum d lo hi then some .none else none
  | _ => none
theorem len1 {α : Type} {l : List α} {n : Nat} (h : l.length = n) : n = 1 → ∃ a, l = [a] := fun e => by
  subst e
  match l, h with
  | [a], _ => exact ⟨a, rfl⟩
theorem len2 {α : Type} {l : List α} {n : Nat} (h : l.length = n) : n = 2 → ∃ a b, l = [a, b] := fun e => by
  subst e
  match l, h with
  | [a, b], _ => exact ⟨a, b, rfl⟩
section
variable {P : Program} {w : World} {K : PySem.W.Frag} {mg : Str → Option Value} {base : Heap}
theorem sc_is_number : FnScope ["value", "low", "high"] ["value", "low", "high"] (defScope s_is_number) := ⟨rfl, rfl, rfl, by decide +kernel, rfl, by decide +kernel, by decide +kernel⟩
theorem fn_is_number (T : Tx K mg) : Fn P w K mg base 1 "is_number" ["value", "low", "high"] (spE f_is_number 3) := by
  refine T.d_is_number.fnE sc_is_number fun f cdv A outer s H1 H0 Q ds d hA S hf hl q => ?_
  obtain ⟨d0, lo, hi, rfl, rfl⟩ : ∃ d0 lo hi, ds = [d0, .int lo, .int hi] ∧ d = .bool (isNum d0 lo hi) := by
    unfold f_is_number at hf
    split at hf
    · exact ⟨_, _, _, rfl, (Option.some.inj hf).symm⟩
    · cases hf
  refine ws_ret (EV.to (ev_and (q := !isBool d0 && isNum d0 lo hi) (ev_isi hA T.b_isinstance T.b_int bt_int (by walk_at "var") (kit_int d0)) fun h1 => EV.to (ev_and (q := isNum d0 lo hi) (ev_not (ev_isi hA T.b_isinstance T.b_bool bt_bool (by walk_at "var") (kit_bool d0))) fun h2 => ?_) rfl) ?_) q
  · cases d0 with
    | int i => exact ev_one (ev_chain (by walk_at "var") (by walk_at "var") (by walk_at "var"))
    | bool i => cases h2
    | _ => cases h1
  · cases d0 <;> rfl
theorem sc_is_pair : FnScope ["value"] ["value"] (defScope s_is_pair) := ⟨rfl, rfl, rfl, by decide +kernel, rfl, by decide +kernel, by decide +kernel⟩
theorem shp_int (i : Int) : Shp (.int i) := rfl
theorem fn_is_pair (T : Tx K mg) : Fn P w K mg base 1 "is_pair" ["value"] (spE f_is_pair 1) := by
  refine T.d_is_pair.fnE sc_is_pair fun f cdv A outer s H1 H0 Q ds d hA S hf hl q => ?_
  obtain ⟨d0, rfl⟩ := len1 hl rfl
  cases Option.some.inj hf
  refine ws_ret (EV.to (ev_and (q := isPairD d0) (ev_isi hA T.b_isinstance T.b_tuple bt_tuple (by walk_at "var") (kit_tuple d0)) fun h1 => ?_) ?_) q
  · cases d0 with
    | tuple xs =>
      refine EV.to (ev_one (ev_eqI (ev_lenT hA T.b_len (by walk_at "var")) ev_int)) ?_
      show PyData.bool (decide ((xs.length : Int) = 2)) = .bool (isPairD (.tuple xs))
      match xs with
      | [] => rfl
      | [a] => rfl
      | [a, b] => rfl
      | a :: b :: c :: r =>
        have : ((a :: b :: c :: r).length : Int) ≠ 2 := by simp only [List.length_cons]; omega
        rw [decide_eq_false this] <;> rfl
    | _ => cases h1
  · cases d0 <;> rfl
theorem sc_ascends : FnScope ["row", "low", "high"] ["row"] (defScope s_ascends) := ⟨rfl, rfl, rfl, by decide +kernel, rfl, by decide +kernel, by decide +kernel⟩
theorem map_intOf : ∀ {xs : List PyData}, xs.all isIntD = true → xs = (xs.map intOf).map PyData.int
  | [], _ => rfl
  | .int i :: xs, h => by
    have q := map_intOf (xs := xs) (by simpa [isIntD] using h)
    show _ = PyData.int i :: (xs.map intOf).map PyData.int
    rw [← q]
  | .none :: _, h | .bool _ :: _, h | .str _ :: _, h | .list _ :: _, h | .tuple _ :: _, h | .dict _ :: _, h => by simp [isIntD] at h
theorem fm_some {α β : Type} (g : α → β) : ∀ l : List α, (l.filterMap fun d => some (g d)) = l.map g
  | [] => rfl
  | x :: l => by rw [List.filterMap_cons, fm_some g l] <;> rfl
theorem fn_ascends (T : Tx K mg) : Fn P w K mg base 1 "_ascends" ["row"] (spE f_ascends 1) := by
  refine T.d_ascends.fnE sc_ascends fun f cdv A outer s H1 H0 Q ds d hA S hf hl q => ?_
  obtain ⟨xs, hx, rfl, rfl⟩ : ∃ xs, (xs.all isIntD || xs.all isIntT) = true ∧ ds = [.tuple xs] ∧ d = .bool (ascD xs) := by
    unfold f_ascends at hf
    split at hf
    · split at hf
      · rename_i h; exact ⟨_, h, rfl, (Option.some.inj hf).symm⟩
      · cases hf
    · cases hf
  have hA' := fun sc : Scope => at_blk (scope := sc) hA
  have ez : ((xs.zip (xs.drop 1)).map fun p => pairD p.1 p.2).map (fun d => match d with | .tuple [a, b] => PyData.bool (ltD a b) | _ => .none) = ((xs.zip (xs.drop 1)).map fun p => ltD p.1 p.2).map PyData.bool := by
    rw [List.map_map, List.map_map]; rfl
  have e2 : ((xs.zip (xs.drop 1)).map fun p => ltD p.1 p.2).all id = ascD xs := by
    unfold ascD; rw [List.all_map]; rfl
  refine ws_ret (EV.to (ev_all hA T.b_all (EV.to (ev_lcF hA S (own := [("low", 1), ("high", 2)]) (g := gTup K 2 (gCons (gName 1) (gCons (gName 2) gNil))) (pg_two (at_blk hA) (fun _ => S.nd)) (ei_zipT hA T.b_zip (by walk_at "var") (ev_tailT hA (j := 1) (by walk_at "var") ev_int))
    (fun d => some (match d with | .tuple [a, b] => PyData.bool (ltD a b) | _ => .none)) fun d hd => ?_) ?_)) (congrArg PyData.bool e2)) q
  · obtain ⟨⟨a, b⟩, hm, rfl⟩ := List.mem_map.mp hd
    have ma := List.of_mem_zip hm
    refine ⟨_, tgr_two, ebs_nil, fun y e1 => ?_⟩
    cases e1
    rcases Bool.or_eq_true_iff.mp hx with h | h
    · have ha := List.all_eq_true.mp h a ma.1
      have hb := List.all_eq_true.mp h b (List.mem_of_mem_drop ma.2)
      cases a with
      | int i => cases b with
        | int j => exact ev_lt (by walk_at "var") (by walk_at "var")
        | _ => cases hb
      | _ => cases ha
    · have ha := List.all_eq_true.mp h a ma.1
      have hb := List.all_eq_true.mp h b (List.mem_of_mem_drop ma.2)
      cases a with
      | tuple us => cases b with
        | tuple ws =>
          have h1 := map_intOf (xs := us) ha
          have h2 := map_intOf (xs := ws) hb
          exact ev_ltT (hA' _) (EV.to (by walk_at "var") (congrArg PyData.tuple h1)) (EV.to (by walk_at "var") (congrArg PyData.tuple h2))
        | _ => cases hb
      | _ => cases ha
  · exact congrArg PyData.list ((fm_some _ _).trans ez)
theorem sc_are_steps : FnScope ["value", "halls", "step"] ["value", "halls"] (defScope s_are_steps) := ⟨rfl, rfl, rfl, by decide +kernel, rfl, by decide +kernel, by decide +kernel⟩
theorem isNum_int {d : PyData} {lo hi : Int} (h : isNum d lo hi = true) : ∃ i, d = .int i ∧ lo ≤ i ∧ i ≤ hi := by
  cases d with
  | int i => simp [isNum] at h; exact ⟨i, rfl, h.1, h.2⟩
  | _ => cases h
abbrev Gnum (P : Program) (w : World) (K : PySem.W.Frag) (mg : Str → Option Value) (base : Heap) : Prop := Fn P w K mg base 1 "is_number" ["value", "low", "high"] (spE f_is_number 3)
abbrev Gasc (P : Program) (w : World) (K : PySem.W.Frag) (mg : Str → Option Value) (base : Heap) : Prop := Fn P w K mg base 1 "_ascends" ["row"] (spE f_ascends 1)
abbrev Gpair (P : Program) (w : World) (K : PySem.W.Frag) (mg : Str → Option Value) (base : Heap) : Prop := Fn P w K mg base 1 "is_pair" ["value"] (spE f_is_pair 1)
theorem fn_are_steps (T : Tx K mg) (g1 : Gnum P w K mg base) (g2 : Gasc P w K mg base) : Fn P w K mg base 2 "_are_steps" ["value", "halls"] (spE f_are_steps 2) := by
  refine T.d_are_steps.fnE sc_are_steps fun f cdv A outer s H1 H0 Q ds d hA S hf hl q => ?_
  obtain ⟨d0, h, rfl, rfl⟩ : ∃ d0 h, ds = [d0, .int h] ∧ d = .bool (areSteps d0 h) := by
    unfold f_are_steps at hf
    split at hf
    · exact ⟨_, _, rfl, (Option.some.inj hf).symm⟩
    · cases hf
  cases hd : isTup d0 with
  | true =>
    cases d0 with
    | tuple xs =>
      have e1 : (xs.map fun x => PyData.bool (isNum x 1 (h - 1))) = (xs.map fun x => isNum x 1 (h - 1)).map PyData.bool := by rw [List.map_map]; rfl
      have e2 : (xs.map fun x => isNum x 1 (h - 1)).all id = xs.all fun x => isNum x 1 (h - 1) := by rw [List.all_map]; rfl
      refine ws_ifr (et_w (eb_or (eb_not (eb_val (ev_isi hA T.b_isinstance T.b_tuple bt_tuple (by walk_at "var") (kit_tuple _)))) fun _ => ew_or1 (eb_not (eb_val (ev_all hA T.b_all (EV.to (ev_lcMap hA S (i := 2) (ei_tup hA (by walk_at "var")) (fun x => .bool (isNum x 1 (h - 1))) fun x hx => ?_) (congrArg PyData.list e1))))))) (fun c => ?_) fun c => ?_
      · exact ev_call (at_blk hA) g1 (el3 (by walk_at "ev") ev_int (ev_sub (by walk_at "ev") ev_int)) (by rfl)
      · refine ws_ret ev_bl (by
          rw [e2] at c
          intro v H d s r e3
          refine q v H d s r (e3.trans ?_)
          have c' : (xs.all fun x => isNum x 1 (h - 1)) = false := by simpa [isTup] using c
          show _ = PyData.bool ((xs.all fun x => isNum x 1 (h - 1)) && ascD xs)
          rw [c', Bool.false_and])
      · rw [e2] at c
        have c' : (xs.all fun x => isNum x 1 (h - 1)) = true := by simpa [isTup] using c
        have hi : xs.all isIntD = true := List.all_eq_true.mpr fun x hx => by
          obtain ⟨i, rfl, _⟩ := isNum_int (List.all_eq_true.mp c' x hx)
          rfl
        refine ws_ret (ev_call hA g2 (el1 (by walk_at "ev")) (d := .bool (ascD xs)) (by show (if _ then _ else _) = _; rw [hi]; rfl)) (by
          intro v H d s r e3
          refine q v H d s r (e3.trans ?_)
          show _ = PyData.bool ((xs.all fun x => isNum x 1 (h - 1)) && ascD xs)
          rw [c', Bool.true_and])
    | _ => cases hd
  | false =>
    refine ws_ifr (et_w (eb_or (q := true) (eb_not (eb_val (ev_isi hA T.b_isinstance T.b_tuple bt_tuple (by walk_at "var") (kit_tuple d0)))) fun c => by rw [hd] at c; cases c)) (fun _ => ws_ret ev_bl (by
      intro v H d s r e3
      refine q v H d s r (e3.trans ?_)
      cases d0 with
      | tuple xs => cases hd
      | _ => rfl)) fun c => by rw [hd] at c; cases c
theorem sc_is_way : FnScope ["value", "halls", "start", "end"] ["value", "halls"] (defScope s_is_way) := ⟨rfl, rfl, rfl, by decide +kernel, rfl, by decide +kernel, by decide +kernel⟩
theorem isPair_tup {d : PyData} (h : isPairD d = true) : ∃ a b, d = .tuple [a, b] := by
  unfold isPairD at h
  split at h
  · exact ⟨_, _, rfl⟩
  · cases h
theorem fn_is_way (T : Tx K mg) (g1 : Gnum P w K mg base) (g2 : Gpair P w K mg base) : Fn P w K mg base 2 "_is_way" ["value", "halls"] (spE f_is_way 2) := by
  refine T.d_is_way.fnE sc_is_way fun f cdv A outer s H1 H0 Q ds d hA S hf hl q => ?_
  obtain ⟨d0, h, rfl, rfl⟩ : ∃ d0 h, ds = [d0, .int h] ∧ d = .bool (isWayD d0 h) := by
    unfold f_is_way at hf
    split at hf
    · exact ⟨_, _, rfl, (Option.some.inj hf).symm⟩
    · cases hf
  refine ws_ifr (eb_not (eb_val (ev_call hA g2 (el1 (by walk_at "ev")) (by rfl)))) (fun c => ws_ret ev_bl (by
    intro v H d s r e3
    refine q v H d s r (e3.trans ?_)
    have c' : isPairD d0 = false := by simpa using c
    unfold isWayD
    split
    · cases c'
    · rfl)) fun c => ?_
  obtain ⟨a, b, rfl⟩ := isPair_tup (by simpa using c)
  refine ws_two hA (i := 2) (j := 3) (Φ := fun x y => x = a ∧ y = b) (EP.mono (by walk_at "var" : EV _ _ _ _ (PyData.tuple [a, b])) fun d e => ⟨a, b, e, rfl, rfl⟩) S fun x y ⟨e1, e2⟩ => ?_
  subst e1 e2
  refine ws_ret (EV.to (ev_and (q := isNum y 0 (h - 1) && !PyData.eqv x y) (ev_call hA g1 (el3 (by walk_at "ev") ev_int (ev_sub (by walk_at "ev") ev_int)) (by rfl)) fun h1 => EV.to (ev_and (q := !PyData.eqv x y) (ev_call hA g1 (el3 (by walk_at "ev") ev_int (ev_sub (by walk_at "ev") ev_int)) (by rfl)) fun h2 => ?_) rfl) rfl) q
  obtain ⟨i, rfl, _⟩ := isNum_int h1
  obtain ⟨j, rfl, _⟩ := isNum_int h2
  exact ev_one (EV.to (ev_neI (by walk_at "var") (by walk_at "var")) (by show PyData.bool (!decide (i = j)) = .bool (!(i == j)); rw [Bool.beq_eq_decide_eq]))
theorem sc_are_ways : FnScope ["value", "halls", "way"] ["value", "halls"] (defScope s_are_ways) := ⟨rfl, rfl, rfl, by decide +kernel, rfl, by decide +kernel, by decide +kernel⟩
theorem isWay_ints {d : PyData} {h : Int} (c : isWayD d h = true) : ∃ i j : Int, d = .tuple [.int i, .int j] ∧ 0 ≤ i ∧ i ≤ h - 1 ∧ 0 ≤ j ∧ j ≤ h - 1 ∧ i ≠ j := by
  unfold isWayD at c
  split at c
  · rw [Bool.and_eq_true, Bool.and_eq_true] at c
    obtain ⟨i, rfl, i1, i2⟩ := isNum_int c.1
    obtain ⟨j, rfl, j1, j2⟩ := isNum_int c.2.1
    refine ⟨i, j, rfl, i1, i2, j1, j2, fun e => ?_⟩
    have z := c.2.2
    rw [e] at z
    simp [PyData.eqv] at z
  · cases c
theorem fn_are_ways (T : Tx K mg) (g1 : Fn P w K mg base 2 "_is_way" ["value", "halls"] (spE f_is_way 2)) (g2 : Gasc P w K mg base) : Fn P w K mg base 3 "_are_ways" ["value", "halls"] (spE f_are_ways 2) := by
  refine T.d_are_ways.fnE sc_are_ways fun f cdv A outer s H1 H0 Q ds d hA S hf hl q => ?_
  obtain ⟨d0, h, rfl, rfl⟩ : ∃ d0 h, ds = [d0, .int h] ∧ d = .bool (areWays d0 h) := by
    unfold f_are_ways at hf
    split at hf
    · exact ⟨_, _, rfl, (Option.some.inj hf).symm⟩
    · cases hf
  cases hd : isTup d0 with
  | true =>
    cases d0 with
    | tuple xs =>
      have e1 : (xs.map fun x => PyData.bool (isWayD x h)) = (xs.map fun x => isWayD x h).map PyData.bool := by rw [List.map_map]; rfl
      have e2 : (xs.map fun x => isWayD x h).all id = xs.all fun x => isWayD x h := by rw [List.all_map]; rfl
      refine ws_ifr (et_w (eb_or (eb_not (eb_val (ev_isi hA T.b_isinstance T.b_tuple bt_tuple (by walk_at "var") (kit_tuple _)))) fun _ => ew_or1 (eb_not (eb_val (ev_all hA T.b_all (EV.to (ev_lcMap hA S (i := 2) (ei_tup hA (by walk_at "var")) (fun x => .bool (isWayD x h)) fun x hx => ?_) (congrArg PyData.list e1))))))) (fun c => ?_) fun c => ?_
      · exact ev_call (at_blk hA) g1 (el2 (by walk_at "ev") (by walk_at "ev")) (by rfl)
      · refine ws_ret ev_bl (by
          rw [e2] at c
          intro v H d s r e3
          refine q v H d s r (e3.trans ?_)
          have c' : (xs.all fun x => isWayD x h) = false := by simpa [isTup] using c
          show _ = PyData.bool ((xs.all fun x => isWayD x h) && ascD xs)
          rw [c', Bool.false_and])
      · rw [e2] at c
        have c' : (xs.all fun x => isWayD x h) = true := by simpa [isTup] using c
        have hi : xs.all isIntT = true := List.all_eq_true.mpr fun x hx => by
          obtain ⟨i, j, rfl, _⟩ := isWay_ints (List.all_eq_true.mp c' x hx)
          rfl
        refine ws_ret (ev_call hA (g2.up (by decide)) (el1 (by walk_at "ev")) (d := .bool (ascD xs)) (by show (if _ then _ else _) = _; rw [hi, Bool.or_true]; rfl)) (by
          intro v H d s r e3
          refine q v H d s r (e3.trans ?_)
          show _ = PyData.bool ((xs.all fun x => isWayD x h) && ascD xs)
          rw [c', Bool.true_and])
    | _ => cases hd
  | false =>
    refine ws_ifr (et_w (eb_or (q := true) (eb_not (eb_val (ev_isi hA T.b_isinstance T.b_tuple bt_tuple (by walk_at "var") (kit_tuple d0)))) fun c => by rw [hd] at c; cases c)) (fun _ => ws_ret ev_bl (by
      intro v H d s r e3
      refine q v H d s r (e3.trans ?_)
      cases d0 with
      | tuple xs => cases hd
      | _ => rfl)) fun c => by rw [hd] at c; cases c
theorem sc_wrong_in_web : FnScope ["value", "halls", "steps"] ["value"] (defScope s_wrong_in_web) := ⟨rfl, rfl, rfl, by decide +kernel, rfl, by decide +kernel, by decide +kernel⟩
theorem fn_wrong_in_web (T : Tx K mg) (g1 : Gnum P w K mg base) (g2 : Gpair P w K mg base) (g3 : Fn P w K mg base 2 "_are_steps" ["value", "halls"] (spE f_are_steps 2)) : Fn P w K mg base 3 "wrong_in_web" ["value"] (spE f_wrong_in_web 1) := by
  refine T.d_wrong_in_web.fnE sc_wrong_in_web fun f cdv A outer s H1 H0 Q ds d hA S hf hl q => ?_
  obtain ⟨d0, rfl⟩ := len1 hl rfl
  cases Option.some.inj hf
  refine ws_ifr (eb_not (eb_val (ev_call hA (g2.up (by decide)) (el1 (by walk_at "ev")) (by rfl)))) (fun c => ws_ret ev_str (by
    intro v H d s r e3
    refine q v H d s r (e3.trans (congrArg PyData.str ?_))
    have c' : isPairD d0 = false := by simpa using c
    unfold wrongWeb
    split
    · cases c'
    · rfl)) fun c => ?_
  obtain ⟨a, b, rfl⟩ := isPair_tup (by simpa using c)
  refine ws_two hA (i := 1) (j := 2) (Φ := fun x y => x = a ∧ y = b) (EP.mono (by walk_at "var" : EV _ _ _ _ (PyData.tuple [a, b])) fun d e => ⟨a, b, e, rfl, rfl⟩) S fun x y ⟨e1, e2⟩ => ?_
  subst e1 e2
  obtain ⟨tk, hm⟩ := T.c_most
  refine ws_ifr (eb_not (eb_val (ev_call hA (g1.up (by decide)) (el3 (by walk_at "ev") ev_int (ev_val (v := .int 13) (fun _ => pe_glob rfl hm ⟨_, rfl⟩) fun H => .int 13)) (by rfl)))) (fun c => ws_ret ev_str (by
    intro v H d s r e3
    refine q v H d s r (e3.trans (congrArg PyData.str ?_))
    have c' : isNum x 2 13 = false := by simpa using c
    show _ = (if _ then _ else _)
    rw [c', if_neg Bool.false_ne_true])) fun c => ?_
  have c1 : isNum x 2 13 = true := by simpa using c
  obtain ⟨h, rfl, _⟩ := isNum_int c1
  refine ws_ifr (eb_not (eb_val (ev_call hA g3 (el2 (by walk_at "ev") (by walk_at "ev")) (by rfl)))) (fun c => ws_ret ev_str (by
    intro v H d s r e3
    refine q v H d s r (e3.trans (congrArg PyData.str ?_))
    have c' : areSteps y h = false := by simpa using c
    show _ = (if _ then (if areSteps y h = true then _ else _) else _)
    rw [c1, if_pos rfl, c', if_neg Bool.false_ne_true])) fun c => ws_ret ev_str (by
    intro v H d s r e3
    refine q v H d s r (e3.trans (congrArg PyData.str ?_))
    have c' : areSteps y h = true := by simpa using c
    show _ = (if _ then (if areSteps y h = true then _ else _) else _)
    rw [c1, if_pos rfl, c', if_pos rfl])
end
end SK


set_option Elab.async false
set_option linter.all false
set_option maxRecDepth 100000
set_option maxHeartbeats 1000000
/-! Sk2a: tables of joins; _are_twins, _rooms_left, _first_rooms. -/
namespace SK
open PySem SW
open L2 hiding Same
local macro_rules | `(tactic| walk_at "v") => `(tactic| first | exact ev_var (fun _ => pv 0) rfl | exact ev_var (fun _ => pv 1) rfl | exact ev_var (fun _ => pv 2) rfl | exact ev_var (fun _ => pv 3) rfl | exact ev_var (fun _ => pv 4) rfl | exact ev_var (fun _ => pv 5) rfl | exact ev_var (fun _ => pv 6) rfl)
section
variable {P : Program} {w : World} {K : PySem.W.Frag} {mg : Str → Option Value} {base : Heap}
abbrev Tb := List (List Int)
def dT (T : Tb) : PyData := .list (T.map fun r => .list (r.map .int))
structure TabOk (n : Nat) (T : Tb) : Prop where
  lo : 1 ≤ n
  hi : n ≤ 13
  len : T.length = n
  row : ∀ r ∈ T, r.length = n
def rowT (T : Tb) (i : Nat) : List Int := T.getD i []
def tv (T : Tb) (i j : Nat) : Int := (rowT T i).getD j 0
theorem TabOk.rw_ {n : Nat} {T : Tb} (h : TabOk n T) {i : Nat} (hi : i < n) : T[i]? = some (rowT T i) ∧ (rowT T i).length = n := by
  have lt : i < T.length := by rw [h.len]; exact hi
  have e : rowT T i = T[i] := by unfold rowT; rw [List.getD_eq_getElem?_getD, List.getElem?_eq_getElem lt] <;> rfl
  rw [e]
  exact ⟨List.getElem?_eq_getElem lt, h.row _ (List.getElem_mem lt)⟩
theorem TabOk.at_ {n : Nat} {T : Tb} (h : TabOk n T) {i j : Nat} (hi : i < n) (hj : j < n) : (rowT T i)[j]? = some (tv T i j) := by
  have lt : j < (rowT T i).length := by rw [(h.rw_ hi).2]; exact hj
  unfold tv
  rw [List.getD_eq_getElem?_getD, List.getElem?_eq_getElem lt] <;> rfl
section
variable {I : Type} {X : I → Cx} {H0 : Hp} {ρ : Env1} {a b c : Expr} {p1 p2 : Pos} {k : Nat}
theorem ev_row {n : Nat} {T : Tb} {i : Nat} (hA : ∀ i, At (X i) P w K mg base k) (h : TabOk n T) (hi : i < n) (ha : EV X H0 ρ a (dT T)) (hb : EV X H0 ρ b (.int (i : Int))) (hp : PlainIx b := by exact fun _ _ => rfl) : EV X H0 ρ (.Subscript a b p1) (.list ((rowT T i).map .int)) :=
  ev_ixL hA ha hb (atI_nat (by rw [List.getElem?_map, (h.rw_ hi).1] <;> rfl)) hp
theorem ev_cell {n : Nat} {T : Tb} {i j : Nat} (hA : ∀ i, At (X i) P w K mg base k) (h : TabOk n T) (hi : i < n) (hj : j < n) (ha : EV X H0 ρ a (dT T)) (hb : EV X H0 ρ b (.int (i : Int))) (hc : EV X H0 ρ c (.int (j : Int))) (hp : PlainIx b := by exact fun _ _ => rfl) (hq : PlainIx c := by exact fun _ _ => rfl) : EV X H0 ρ (.Subscript (.Subscript a b p1) c p2) (.int (tv T i j)) :=
  ev_ixL hA (ev_row hA h hi ha hb hp) hc (atI_nat (by rw [List.getElem?_map, h.at_ hi hj] <;> rfl)) hq
end
theorem dT_len (T : Tb) : (T.map fun r => PyData.list (r.map .int)).length = T.length := List.length_map _
/-- range(n) as data -/
theorem rg0 (n : Nat) : rgD 0 n = (List.range n).map fun (i : Nat) => PyData.int (i : Int) := by
  unfold rgD
  exact List.map_congr_left fun i _ => by rw [Int.zero_add]
/-! ### twins -/
def twinsB (n : Nat) (T : Tb) (a b : Nat) : Bool := decide (tv T a b = tv T b a) && ((List.range n).filter fun h => !(decide (h = a) || decide (h = b))).all fun h => decide (tv T a h = tv T b h)
theorem sc_are_twins : FnScope ["table", "one", "other", "rest", "hall"] ["table", "one", "other"] (defScope s_are_twins) := ⟨rfl, rfl, rfl, by decide +kernel, rfl, by decide +kernel, by decide +kernel⟩
abbrev Gtwins (P : Program) (w : World) (K : PySem.W.Frag) (mg : Str → Option Value) (base : Heap) : Prop := Fn P w K mg base 1 "_are_twins" ["table", "one", "other"]
  (spX [] (fun x : Nat × Tb × Nat × Nat => [dT x.2.1, .int x.2.2.1, .int x.2.2.2]) (fun x => TabOk x.1 x.2.1 ∧ x.2.2.1 < x.1 ∧ x.2.2.2 < x.1) (fun x => .bool (twinsB x.1 x.2.1 x.2.2.1 x.2.2.2)) 3)
theorem mem_two (h a b : Nat) : decide ((h : Int) ∈ [(a : Int), (b : Int)]) = (decide (h = a) || decide (h = b)) := by
  by_cases c : h = a
  · subst c; simp
  · by_cases d : h = b
    · subst d; simp
    · have e1 : (h : Int) ≠ a := by omega
      have e2 : (h : Int) ≠ b := by omega
      simp [c, d, e1, e2]
theorem fn_are_twins (T : Tx K mg) : Gtwins P w K mg base := by
  refine T.d_are_twins.fnX sc_are_twins (fun _ _ => rfl) fun f cdv A outer s H1 H0 Q ⟨n, B, a, b⟩ hA S ⟨ok, ha, hb⟩ ht q => ?_
  have ok : TabOk n B := ok
  have ha : a < n := ha
  have hb : b < n := hb
  have hn := ok.hi
  have l9 : (B.map fun r => PyData.list (r.map .int)).length = n := by rw [dT_len, ok.len]
  refine ws_ifr (b := !decide (tv B a b = tv B b a)) (eb_neI (ev_cell hA ok ha hb (by walk_at "v") (by walk_at "v") (by walk_at "v")) (ev_cell hA ok hb ha (by walk_at "v") (by walk_at "v") (by walk_at "v"))) (fun c => ?_) fun c => ?_
  · refine ws_ret ev_bl fun v H' d' s' rv e => q v H' d' s' rv ?_
    rw [e]
    unfold twinsB
    rw [show decide (tv B a b = tv B b a) = false by simpa using c, Bool.false_and]
  · have c' : decide (tv B a b = tv B b a) = true := by simpa using c
    refine ws_setLcIf (i := 4) (i0 := 3) hA S (ei_rng1 hA T.b_range (ev_lenL hA T.b_len (by walk_at "v")) (by rw [l9]; omega)) (fun d => match d with
      | .int h => !decide (h ∈ [(a : Int), (b : Int)])
      | _ => false) (fun d => d) (fun d hd => ?_) ?_
    · rw [l9, show ((n : Int)).toNat = n from rfl, rg0] at hd
      obtain ⟨h, hh, rfl⟩ := List.mem_map.mp hd
      exact ⟨eb_ninT (at_blk hA) (by walk_at "v") (ev_tup (el2 (by walk_at "v") (by walk_at "v")) (Nat.le_of_lt (small1000 (show 2 ≤ 1000 by decide)))), fun _ => by walk_at "v"⟩
    · rw [l9, show ((n : Int)).toNat = n from rfl, rg0, List.map_id', List.filter_map]
      refine ws_ret (ev_all (bs := ((List.range n).filter fun h => !(decide (h = a) || decide (h = b))).map fun h => decide (tv B a h = tv B b h)) hA T.b_all (EV.to (ev_lcMap (i := 4) hA S (ei_list hA (by walk_at "v")) (fun d => match d with
        | .int h => .bool (decide (tv B a h.toNat = tv B b h.toNat))
        | _ => .none) (fun d hd => ?_)) ?_)) fun v H' d' s' rv e => q v H' d' s' rv ?_
      · obtain ⟨h, hh, rfl⟩ := List.mem_map.mp hd
        have lt : h < n := List.mem_range.mp (List.mem_filter.mp hh).1
        exact ev_eqI (ev_cell (at_blk hA) ok ha lt (by walk_at "v") (by walk_at "v") (by walk_at "v")) (ev_cell (at_blk hA) ok hb lt (by walk_at "v") (by walk_at "v") (by walk_at "v"))
      · rw [List.map_map, List.map_map]
        have e1 : ((fun d => match d with
          | .int h => !decide (h ∈ [(a : Int), (b : Int)])
          | _ => false) ∘ fun (i : Nat) => PyData.int (i : Int)) = fun h : Nat => !(decide (h = a) || decide (h = b)) := by
          funext h
          show (!decide ((h : Int) ∈ [(a : Int), (b : Int)])) = _
          rw [mem_two]
        rw [e1]
        rfl
      · rw [e]
        unfold twinsB
        rw [c', Bool.true_and, List.all_map]
        rfl
end
end SK


set_option Elab.async false
set_option linter.all false
set_option maxRecDepth 100000
set_option maxHeartbeats 1000000
/-! Sk2b: _unlike_places. -/
namespace SK
open PySem SW
open L2 hiding Same
local macro_rules | `(tactic| walk_at "v") => `(tactic| first | exact ev_var (fun _ => pv 0) rfl | exact ev_var (fun _ => pv 1) rfl | exact ev_var (fun _ => pv 2) rfl | exact ev_var (fun _ => pv 3) rfl | exact ev_var (fun _ => pv 4) rfl | exact ev_var (fun _ => pv 5) rfl | exact ev_var (fun _ => pv 6) rfl)
section
variable {P : Program} {w : World} {K : PySem.W.Frag} {mg : Str → Option Value} {base : Heap}
/-- a raw slot known as data -/
theorem RpS.asDat {H : Hp} {σ : St} {ρ : Env1} {i : Nat} {v : V} {d : PyData} (r : RpS H σ ρ) (h : σ[i]? = some (some v)) (rv : Rp H v d) : RpS H σ (ρ.set i (some (.dat d))) := by
  have e : σ = σ.set i (some v) := by
    refine List.ext_getElem? fun j => ?_
    by_cases c : i = j
    · subst c
      rw [List.getElem?_set_self (List.getElem?_eq_some_iff.mp h).1, h]
    · rw [List.getElem?_set_ne c]
  rw [e]
  exact r.set rv
theorem setFree {H : Hp} {σ : St} {ρ : Env1} {i : Nat} {u : Option V} (r : RpS H σ ρ) (h : ρ[i]? = some none) : RpS H (σ.set i u) ρ := by
  refine ⟨by rw [List.length_set, r.len], fun j => ?_⟩
  by_cases e : i = j
  · subst e
    rw [h]
    trivial
  · rw [List.getElem?_set_ne e]
    exact r.at_ j
abbrev natsD (ps : List Nat) : List PyData := ps.map fun (p : Nat) => PyData.int (p : Int)
abbrev natsV (ps : List Nat) : List V := ps.map fun (p : Nat) => V.int (p : Int)
theorem nats_rp {H : Hp} : ∀ ps : List Nat, RpA H (natsV ps) (natsD ps)
  | [] => .nil
  | p :: ps => .cons (.int _) (nats_rp ps)
theorem nats_inv {H : Hp} : ∀ {vs : List V} {ps : List Nat}, RpA H vs (natsD ps) → vs = natsV ps
  | _, [], .nil => rfl
  | _, p :: ps, .cons (.int _) r => by rw [nats_inv r] <;> rfl
def unlS (n : Nat) (T : Tb) (ch : List Nat) (p : Nat) : List Nat := if ch.any fun e => twinsB n T p e then ch else ch ++ [p]
def unl (n : Nat) (T : Tb) (ps : List Nat) : List Nat := ps.foldl (unlS n T) []
theorem unl_take {n : Nat} {T : Tb} {ps : List Nat} {i p : Nat} (h : ps[i]? = some p) : unl n T (ps.take (i + 1)) = unlS n T (unl n T (ps.take i)) p := by
  unfold unl
  rw [List.take_succ, h, List.foldl_append] <;> rfl
theorem unl_sub {n : Nat} {T : Tb} : ∀ (ps ch : List Nat), ∀ x ∈ ps.foldl (unlS n T) ch, x ∈ ch ∨ x ∈ ps
  | [], ch, x, h => .inl h
  | p :: ps, ch, x, h => by
    rcases unl_sub ps (unlS n T ch p) x h with z | z
    · unfold unlS at z
      split at z
      · exact .inl z
      · rcases List.mem_append.mp z with z | z
        · exact .inl z
        · rw [List.mem_singleton.mp z]; exact .inr List.mem_cons_self
    · exact .inr (List.mem_cons_of_mem _ z)
theorem unl_len {n : Nat} {T : Tb} : ∀ (ps ch : List Nat), (ps.foldl (unlS n T) ch).length ≤ ch.length + ps.length
  | [], ch => Nat.le_refl _
  | p :: ps, ch => by
    have h := unl_len (n := n) (T := T) ps (unlS n T ch p)
    have h2 : (unlS n T ch p).length ≤ ch.length + 1 := by
      unfold unlS
      split
      · omega
      · rw [List.length_append, List.length_singleton]; exact Nat.le_refl _
    rw [List.foldl_cons, List.length_cons]
    omega
theorem sc_unlike_places : FnScope ["table", "places", "chosen", "place", "earlier"] ["table", "places"] (defScope s_unlike_places) := ⟨rfl, rfl, rfl, by decide +kernel, rfl, by decide +kernel, by decide +kernel⟩
abbrev Gunl (P : Program) (w : World) (K : PySem.W.Frag) (mg : Str → Option Value) (base : Heap) : Prop := Fn P w K mg base 2 "_unlike_places" ["table", "places"]
  (spX [] (fun x : Nat × Tb × List Nat => [dT x.2.1, .list (natsD x.2.2)]) (fun x => TabOk x.1 x.2.1 ∧ (∀ p ∈ x.2.2, p < x.1) ∧ x.2.2.length ≤ 900) (fun x => .list (natsD (unl x.1 x.2.1 x.2.2))) 2)
theorem fn_unlike_places (T : Tx K mg) (g : Gtwins P w K mg base) : Gunl P w K mg base := by
  refine T.d_unlike_places.fnX sc_unlike_places (fun _ _ => rfl) fun f cdv A outer s H1 H0 Q ⟨n, B, ps⟩ hA S ⟨ok, hps, hlen⟩ ht q => .mk fun σ H sm r => ?_
  have ok : TabOk n B := ok
  have hps : ∀ p ∈ ps, p < n := hps
  have hlen : ps.length ≤ 900 := hlen
  obtain ⟨vp, e1, r1⟩ := r.get (i := 1) rfl
  cases r1 with
  | @lst a xs _ ha ra =>
    have ex := nats_inv ra
    subst ex
    have r' : RpS H σ [some (.dat (dT B)), some (.raw (.ref a)), none, none, none] := ⟨r.len, fun i => match i with
      | 0 => r.at_ 0
      | 1 => e1
      | 2 => trivial
      | 3 => trivial
      | 4 => trivial
      | _ + 5 => trivial⟩
    refine wb_setU (i := 2) (ue_nil fun D hD => ?_) S.ndx
    have aD : a ≠ D := fun z => by rw [z, hD] at ha; cases ha
    refine wb_forR (J := Itl K a) (ti := iList K (tVar 1)) hA (fun i => (hA i).K ▸ pi_list (pv 1)) (fun R h => ⟨.ref a, by simpa using e1, a, rfl, ⟨_, SqL.of (by rw [upd_ne aD]; exact ha)⟩, h⟩) (fun i => pg_name (i := 3) (S.ndx i) rfl (Or.inr rfl) (Or.inl rfl)) ps.length
      (fun i σ' H' => RpS H σ' [some (.dat (dT B)), some (.raw (.ref a)), some (.raw (.ref D)), none, none] ∧ H' D = some (.lst (natsV (unl n B (ps.take i)))) ∧ Same H H') ⟨r'.setRaw, upd_same, same_upd hD⟩ (fun i σ' H' lt ⟨rs, hd, s'⟩ => ?_) (fun σ' H' ⟨rs, hd, s'⟩ => ⟨⟨_, SqL.of (s' _ _ ha), by unfold natsV; rw [List.length_map]; exact Nat.le_refl _⟩, ?_⟩) ?_
    · obtain ⟨p, hp⟩ : ∃ p, ps[i]? = some p := ⟨_, List.getElem?_eq_getElem lt⟩
      have pn : p < n := hps p (List.mem_of_getElem? hp)
      have hx : (natsV ps)[i]? = some (.int (p : Int)) := by unfold natsV; rw [List.getElem?_map, hp] <;> rfl
      have ha' : H' a = some (.lst (natsV ps)) := s' _ _ ha
      refine ⟨⟨_, _, SqL.of ha', hx⟩, fun x H4 ⟨e4, y⟩ N hN => ?_⟩
      subst e4
      obtain rfl : x = V.int (p : Int) := Option.some.inj ((y _ (SqL.of ha')).symm.trans hx)
      have r3 : RpS H4 (σ'.set 3 (some (.int (p : Int)))) [some (.dat (dT B)), some (.raw (.ref a)), some (.raw (.ref D)), some (.dat (.int (p : Int))), none] := (rs.mono s').set (.int (p : Int))
      have s2D : (σ'.set 3 (some (V.int (p : Int))))[2]? = some (some (.ref D)) := r3.getRaw rfl
      have r4 := RpS.asDat r3 s2D (.lst hd (nats_rp _))
      have hl9 : (unl n B (ps.take i)).length ≤ 900 := by
        have := unl_len (n := n) (T := B) (ps.take i) []
        rw [List.length_take] at this
        unfold unl
        simp only [List.length_nil] at this
        omega
      have pnt := unl_take (n := n) (T := B) hp
      refine wb_if (Φ := fun b => b = !((unl n B (ps.take i)).any fun e => twinsB n B p e)) (ET.run (eb_not (eb_val (EV.to (ev_any (bs := (unl n B (ps.take i)).map fun e => twinsB n B p e) hA T.b_any (EV.to (ev_lcMap (i := 4) hA S (ei_list hA (by walk_at "v")) (fun d => match d with
        | .int e => .bool (twinsB n B p e.toNat)
        | _ => .none) (fun d hd' => ?_)) ?_)) ?_))) _ _ (Same.refl _) r4) (fun H5 s5 hb => ?_) fun H5 s5 hb => ?_
      · obtain ⟨e, he, rfl⟩ := List.mem_map.mp hd'
        have en : e < n := by
          rcases unl_sub (ps.take i) [] e he with z | z
          · cases z
          · exact hps e (List.mem_of_mem_take z)
        exact ev_callX (at_blk hA) (g.up (by omega)) (n, B, p, e) ⟨ok, pn, en⟩ (el3 (by walk_at "v") (by walk_at "v") (by walk_at "v"))
      · rw [List.map_map, List.map_map] <;> rfl
      · rw [List.any_map] <;> rfl
      · -- append
        have hn0 : ((unl n B (ps.take i)).any fun e => twinsB n B p e) = false := by simpa using hb.symm
        have hD5 : H5 D = some (.lst (natsV (unl n B (ps.take i)))) := s5 _ _ hd
        refine wb_append (j := 2) (y := .int (p : Int)) hA (fun _ => pv 2) s2D hD5 (by rw [List.length_map]; exact small1000 (by omega)) (ue_var (fun _ => pv 3) (by rw [List.getElem?_set_self (by rw [rs.len]; exact (by decide : 3 < 5))]) ⟨rfl, rfl⟩) (wb_nil (wb_nil (hN _ _ ⟨?_, ?_, ?_⟩)))
        · exact setFree rs rfl
        · rw [pnt, upd_same]
          unfold unlS
          rw [hn0, if_neg Bool.false_ne_true]
          simp only [natsV, List.map_append, List.map_cons, List.map_nil]
        · exact same_hide (s'.trans s5) hD hD5
      · have hn0 : ((unl n B (ps.take i)).any fun e => twinsB n B p e) = true := by simpa using hb.symm
        refine wb_nil (wb_nil (hN _ _ ⟨?_, ?_, s'.trans s5⟩))
        · exact setFree rs rfl
        · rw [pnt]
          unfold unlS
          rw [hn0, if_pos rfl]
          exact s5 _ _ hd
    · refine wb_ret (Φ := fun d => d = .list (natsD (unl n B ps))) (de_var (v := .ref D) (fun _ => pv 2) (rs.getRaw (i := 2) rfl) (.lst hd (by rw [List.take_length]; exact nats_rp _))) fun v H2 d s2 rv e => q v H2 d (sm.trans (s'.trans s2)) rv e
    · exact fun _ => PassesOwn.never
end
end SK


set_option Elab.async false
set_option linter.all false
set_option maxRecDepth 100000
set_option maxHeartbeats 1000000
/-! Sk2c: rooms; _rooms_left, _first_rooms. -/
namespace SK
open PySem SW
open L2 hiding Same
local macro_rules | `(tactic| walk_at "v") => `(tactic| first | exact ev_var (fun _ => pv 0) rfl | exact ev_var (fun _ => pv 1) rfl | exact ev_var (fun _ => pv 2) rfl | exact ev_var (fun _ => pv 3) rfl | exact ev_var (fun _ => pv 4) rfl | exact ev_var (fun _ => pv 5) rfl | exact ev_var (fun _ => pv 6) rfl)
section
variable {P : Program} {w : World} {K : PySem.W.Frag} {mg : Str → Option Value} {base : Heap}
abbrev Rm := List (Nat × List Nat)
def ksR (R : Rm) : List (Int × List PyData) := R.map fun p => ((p.1 : Int), natsD p.2)
def dR (R : Rm) : PyData := dctI (lstD (ksR R))
structure RmOk (n : Nat) (R : Rm) : Prop where
  nd : (R.map Prod.fst).Nodup
  len : R.length ≤ 13
  key : ∀ p ∈ R, p.1 < n
  few : ∀ p ∈ R, p.2.length ≤ 13
  val : ∀ p ∈ R, ∀ q ∈ p.2, q < n
def lookR (R : Rm) (k : Nat) : List Nat := ((R.find? fun p => decide (p.1 = k)).map Prod.snd).getD []
theorem lookR_mem : ∀ {R : Rm} {p : Nat × List Nat}, (R.map Prod.fst).Nodup → p ∈ R → lookR R p.1 = p.2
  | [], p, _, h => by cases h
  | q :: R, p, nd, h => by
    unfold lookR
    rw [List.find?_cons]
    by_cases e : q.1 = p.1
    · rw [decide_eq_true e]
      rcases List.mem_cons.mp h with z | z
      · rw [z] <;> rfl
      · rw [List.map_cons, List.nodup_cons] at nd
        exact absurd (List.mem_map.mpr ⟨p, z, e.symm⟩) nd.1
    · rw [decide_eq_false e]
      rcases List.mem_cons.mp h with z | z
      · exact absurd (by rw [z]) e
      · rw [List.map_cons, List.nodup_cons] at nd
        exact lookR_mem nd.2 z
theorem lookI_R : ∀ {R : Rm} {p : Nat × List Nat}, p ∈ R → lookI (lstD (ksR R)) (p.1 : Int) = some (.list (natsD (lookR R p.1)))
  | [], p, h => by cases h
  | q :: R, p, h => by
    have e0 : lstD (ksR (q :: R)) = ((q.1 : Int), PyData.list (natsD q.2)) :: lstD (ksR R) := rfl
    rw [e0]
    unfold lookI lookR
    rw [List.find?_cons, List.find?_cons]
    by_cases e : q.1 = p.1
    · have e' : ((q.1 : Int) = (p.1 : Int)) := by rw [e]
      rw [decide_eq_true e, decide_eq_true e'] <;> rfl
    · have e' : ¬ ((q.1 : Int) = (p.1 : Int)) := by omega
      rw [decide_eq_false e, decide_eq_false e']
      rcases List.mem_cons.mp h with z | z
      · exact absurd (by rw [z]) e
      · exact lookI_R z
def leftR (A B : Tb) (R : Rm) (hall place : Nat) : Rm := (R.filter fun p => decide (p.1 ≠ hall)).map fun p => (p.1, p.2.filter fun room => decide (tv B place room = tv A hall p.1))
theorem leftR_ok {n : Nat} {A B : Tb} {R : Rm} {hall place : Nat} (h : RmOk n R) : RmOk n (leftR A B R hall place) := by
  have sub : ((leftR A B R hall place).map Prod.fst).Sublist (R.map Prod.fst) := by
    unfold leftR
    rw [List.map_map]
    exact List.Sublist.map Prod.fst List.filter_sublist
  have mem : ∀ p ∈ leftR A B R hall place, ∃ q ∈ R, p.1 = q.1 ∧ p.2 = q.2.filter fun room => decide (tv B place room = tv A hall q.1) := fun p hp => by
    obtain ⟨q, hq, e⟩ := List.mem_map.mp hp
    subst e
    exact ⟨q, (List.mem_filter.mp hq).1, rfl, rfl⟩
  refine ⟨h.nd.sublist sub, ?_, fun p hp => ?_, fun p hp => ?_, fun p hp r hr => ?_⟩
  · have := sub.length_le
    rw [List.length_map, List.length_map] at this
    exact Nat.le_trans this h.len
  · obtain ⟨q, hq, e, _⟩ := mem p hp
    rw [e]
    exact h.key q hq
  · obtain ⟨q, hq, _, e⟩ := mem p hp
    rw [e]
    exact Nat.le_trans (List.length_filter_le _ _) (h.few q hq)
  · obtain ⟨q, hq, _, e⟩ := mem p hp
    rw [e] at hr
    exact h.val q hq r (List.mem_filter.mp hr).1
theorem keysR (R : Rm) : (lstD (ksR R)).map (fun q => PyData.int q.1) = R.map fun p => PyData.int (p.1 : Int) := by unfold lstD ksR; rw [List.map_map, List.map_map] <;> rfl
theorem EBs.to {I : Type} {X : I → Cx} {H0 : Hp} {ρ : Env1} {ifs : List Expr} {b b' : Bool} (h : EBs X H0 ρ ifs b) (e : b = b') : EBs X H0 ρ ifs b' := e ▸ h
theorem scBlk {I : Type} {X : I → Cx} {N : List Str} {sc scope : Scope} (S : Sc X N sc) : Sc (blkF X scope) N (relS scope sc) := ⟨S.nd, fun i => S.hN i.1, fun i => by
  show relabel scope (X i.1).env = _
  unfold relabel Env.kindOf
  rw [S.hs i.1] <;> rfl⟩
theorem sc_rooms_left : FnScope ["here", "there", "rooms", "hall", "place", "other", "room"] ["here", "there", "rooms", "hall", "place"] (defScope s_rooms_left) := ⟨rfl, rfl, rfl, by decide +kernel, rfl, by decide +kernel, by decide +kernel⟩
abbrev Gleft (P : Program) (w : World) (K : PySem.W.Frag) (mg : Str → Option Value) (base : Heap) : Prop := Fn P w K mg base 2 "_rooms_left" ["here", "there", "rooms", "hall", "place"]
  (spX [] (fun x : Nat × Tb × Tb × Rm × Nat × Nat => [dT x.2.1, dT x.2.2.1, dR x.2.2.2.1, .int x.2.2.2.2.1, .int x.2.2.2.2.2]) (fun x => TabOk x.1 x.2.1 ∧ TabOk x.1 x.2.2.1 ∧ RmOk x.1 x.2.2.2.1 ∧ x.2.2.2.2.1 < x.1 ∧ x.2.2.2.2.2 < x.1) (fun x => dR (leftR x.2.1 x.2.2.1 x.2.2.2.1 x.2.2.2.2.1 x.2.2.2.2.2)) 5)
def leftF (A B : Tb) (R : Rm) (hall place : Nat) : PyData → Option (Int × PyData)
  | .int o => if o = (hall : Int) then none else some (o, .list (natsD ((lookR R o.toNat).filter fun room => decide (tv B place room = tv A hall o.toNat))))
  | _ => none
theorem left_fm {A B : Tb} {R : Rm} {hall place : Nat} (nd : (R.map Prod.fst).Nodup) : (R.map fun p => PyData.int (p.1 : Int)).filterMap (leftF A B R hall place) = lstD (ksR (leftR A B R hall place)) := by
  have h1 : ∀ L : Rm, (∀ p ∈ L, p ∈ R) → (L.map fun p => PyData.int (p.1 : Int)).filterMap (leftF A B R hall place) = lstD (ksR ((L.filter fun p => decide (p.1 ≠ hall)).map fun p => (p.1, p.2.filter fun room => decide (tv B place room = tv A hall p.1)))) := by
    intro L
    induction L with
    | nil => intro _; rfl
    | cons p L ih =>
      intro hL
      have ih := ih fun q hq => hL q (List.mem_cons_of_mem _ hq)
      have e := lookR_mem nd (hL p List.mem_cons_self)
      rw [List.map_cons, List.filter_cons]
      by_cases c : p.1 = hall
      · have c' : ((p.1 : Int) = (hall : Int)) := by rw [c]
        rw [List.filterMap_cons_none (by show (if (p.1 : Int) = (hall : Int) then none else _) = none; rw [if_pos c']), if_neg (by simp [c]), ih]
      · have c' : ¬ ((p.1 : Int) = (hall : Int)) := by omega
        rw [List.filterMap_cons_some (by show (if (p.1 : Int) = (hall : Int) then none else _) = _; rw [if_neg c']), if_pos (by simp [c]), ih]
        show (_ :: _ : List (Int × PyData)) = _ :: _
        congr 1
        show ((p.1 : Int), PyData.list (natsD ((lookR R ((p.1 : Int)).toNat).filter _))) = _
        rw [Int.toNat_natCast, e]
  exact h1 R fun p h => h
theorem fn_rooms_left (T : Tx K mg) : Gleft P w K mg base := by
  refine T.d_rooms_left.fnX sc_rooms_left (fun _ _ => rfl) fun f cdv A outer s H1 H0 Q ⟨n, TA, TB, R, hall, place⟩ hA S ⟨oa, ob, or_, hh, hp⟩ ht q => ?_
  have oa : TabOk n TA := oa
  have ob : TabOk n TB := ob
  have or_ : RmOk n R := or_
  have hh : hall < n := hh
  have hp : place < n := hp
  refine ws_ret (EV.to (ev_dcKeys (ks := lstD (ksR R)) (j := 2) (own := [("other", 5)]) (g := gName 5) hA S (fun i => pg_name S.nd rfl (Or.inr rfl) (Or.inl rfl)) (fun _ => pv 2) rfl (by unfold lstD ksR; rw [List.length_map, List.length_map]; exact Nat.le_of_lt (small1000 (Nat.le_trans or_.len (by decide)))) (leftF TA TB R hall place) ?_ fun d hd => ⟨_, tgr_name, ?_, fun y e1 => ⟨?_, ?_⟩⟩) ?_) q
  · rw [keysR, left_fm or_.nd]
    have z := (leftR_ok (A := TA) (B := TB) (hall := hall) (place := place) or_).nd
    unfold lstD ksR
    rw [List.map_map, List.map_map]
    have z2 := List.pairwise_map.mpr (z.imp (S := fun a b => ((a : Nat) : Int) ≠ (b : Int)) fun h => by omega)
    rw [List.map_map] at z2
    exact z2
  · rw [keysR] at hd
    obtain ⟨p, hpR, rfl⟩ := List.mem_map.mp hd
    refine ebs_one ((eb_neI (by walk_at "v") (by walk_at "v")).to ?_)
    show (!decide ((p.1 : Int) = (hall : Int))) = (if (p.1 : Int) = (hall : Int) then none else some _).isSome
    by_cases c : (p.1 : Int) = (hall : Int)
    · rw [if_pos c, decide_eq_true c] <;> rfl
    · rw [if_neg c, decide_eq_false c] <;> rfl
  · rw [keysR] at hd
    obtain ⟨p, hpR, rfl⟩ := List.mem_map.mp hd
    have e2 : (if (p.1 : Int) = (hall : Int) then none else some ((p.1 : Int), PyData.list (natsD ((lookR R ((p.1 : Int)).toNat).filter fun room => decide (tv TB place room = tv TA hall ((p.1 : Int)).toNat))))) = some y := e1
    by_cases c : (p.1 : Int) = (hall : Int)
    · rw [if_pos c] at e2; cases e2
    · rw [if_neg c] at e2
      cases e2
      walk_at "v"
  · rw [keysR] at hd
    obtain ⟨p, hpR, rfl⟩ := List.mem_map.mp hd
    have e2 : (if (p.1 : Int) = (hall : Int) then none else some ((p.1 : Int), PyData.list (natsD ((lookR R ((p.1 : Int)).toNat).filter fun room => decide (tv TB place room = tv TA hall ((p.1 : Int)).toNat))))) = some y := e1
    by_cases c : (p.1 : Int) = (hall : Int)
    · rw [if_pos c] at e2; cases e2
    · rw [if_neg c] at e2
      cases e2
      have pk := or_.key p hpR
      refine EV.to (ev_lcIf (i := 6) (at_blk hA) (scBlk S) (ei_list (at_blk hA) (ev_ixD (at_blk hA) (by walk_at "v") (by walk_at "v") (lookI_R hpR))) (fun d => match d with
        | .int r => decide (tv TB place r.toNat = tv TA hall p.1)
        | _ => false) (fun d => d) (fun d hd' => ?_)) ?_
      · obtain ⟨r, hr, rfl⟩ := List.mem_map.mp hd'
        have rn : r < n := by
          rw [lookR_mem or_.nd hpR] at hr
          exact or_.val p hpR r hr
        exact ⟨eb_eqI (ev_cell (at_blk (at_blk hA)) ob hp rn (by walk_at "v") (by walk_at "v") (by walk_at "v")) (ev_cell (at_blk (at_blk hA)) oa hh pk (by walk_at "v") (by walk_at "v") (by walk_at "v")), fun _ => by walk_at "v"⟩
      · rw [List.map_id', List.filter_map] <;> rfl
  · rw [keysR, left_fm or_.nd] <;> rfl
/-! ### the first rooms -/
def firstR (n : Nat) (A B : Tb) : Rm := (List.range n).map fun h => (h, (List.range n).filter fun p => decide (isort leI (rowT B p) = isort leI (rowT A h)))
theorem firstR_ok {n : Nat} {A B : Tb} (hn : n ≤ 13) : RmOk n (firstR n A B) := by
  have e1 : (firstR n A B).map Prod.fst = List.range n := by unfold firstR; rw [List.map_map]; exact List.map_id _
  refine ⟨by rw [e1]; exact List.nodup_range, ?_, fun p hp => ?_, fun p hp => ?_, fun p hp q hq => ?_⟩
  · have := congrArg List.length e1
    rw [List.length_map, List.length_range] at this
    omega
  · exact List.mem_range.mp (e1 ▸ List.mem_map.mpr ⟨p, hp, rfl⟩)
  · obtain ⟨h, _, rfl⟩ := List.mem_map.mp hp
    exact Nat.le_trans (List.length_filter_le _ _) (by rw [List.length_range]; exact hn)
  · obtain ⟨h, _, rfl⟩ := List.mem_map.mp hp
    exact List.mem_range.mp (List.mem_filter.mp hq).1
theorem canLay_ints2 : ∀ st : List Int, PyData.canLayAll0 (st.map .int) = true
  | [] => rfl
  | i :: st => by show (true && PyData.canLayAll0 (st.map .int)) = true; rw [canLay_ints2 st]; rfl
theorem depth_ints2 : ∀ st : List Int, PyData.depthAll (st.map .int) ≤ 1
  | [] => by simp [PyData.depthAll]
  | i :: st => by
    have := depth_ints2 st
    simp only [List.map_cons, PyData.depthAll, PyData.depth]
    omega
theorem shp_intL (ns : List Int) : Shp (.list (ns.map .int)) := by
  have e1 : (PyData.list (ns.map .int)).canLay0 = true := canLay_ints2 ns
  have e2 : (PyData.list (ns.map .int)).depth ≤ 64 := by
    have := depth_ints2 ns
    simp only [PyData.depth]
    omega
  show (_ && _) = true
  rw [e1, decide_eq_true e2]; rfl
theorem eqv_ints2 : ∀ st ss : List Int, PyData.eqvAll (st.map .int) (ss.map .int) = decide (st = ss)
  | [], [] => rfl
  | [], _ :: _ => rfl
  | _ :: _, [] => rfl
  | a :: st, b :: ss => by
    show ((a == b) && PyData.eqvAll (st.map .int) (ss.map .int)) = _
    rw [eqv_ints2 st ss]
    by_cases e : a = b
    · subst e; simp
    · simp [e]
theorem eqv_intL (ns ms : List Int) : PyData.eqv (.list (ns.map .int)) (.list (ms.map .int)) = decide (ns = ms) := eqv_ints2 ns ms
theorem sc_first_rooms : FnScope ["here", "there", "many", "hall", "place"] ["here", "there"] (defScope s_first_rooms) := ⟨rfl, rfl, rfl, by decide +kernel, rfl, by decide +kernel, by decide +kernel⟩
abbrev Gfirst (P : Program) (w : World) (K : PySem.W.Frag) (mg : Str → Option Value) (base : Heap) : Prop := Fn P w K mg base 2 "_first_rooms" ["here", "there"]
  (spX [] (fun x : Nat × Tb × Tb => [dT x.2.1, dT x.2.2]) (fun x => TabOk x.1 x.2.1 ∧ TabOk x.1 x.2.2) (fun x => dR (firstR x.1 x.2.1 x.2.2)) 2)
theorem fn_first_rooms (T : Tx K mg) : Gfirst P w K mg base := by
  refine T.d_first_rooms.fnX sc_first_rooms (fun _ _ => rfl) fun f cdv A outer s H1 H0 Q ⟨n, TA, TB⟩ hA S ⟨oa, ob⟩ ht q => ?_
  have oa : TabOk n TA := oa
  have ob : TabOk n TB := ob
  have hn := oa.hi
  have l9 : (TA.map fun r => PyData.list (r.map .int)).length = n := by rw [dT_len, oa.len]
  have rg : rgD 0 ((n : Int)).toNat = (List.range n).map fun (i : Nat) => PyData.int (i : Int) := rg0 n
  have fm : ((List.range n).map fun (i : Nat) => PyData.int (i : Int)).filterMap (fun d => match d with
    | .int h => some (h, PyData.list (natsD ((List.range n).filter fun p => decide (isort leI (rowT TB p) = isort leI (rowT TA h.toNat)))))
    | _ => none) = lstD (ksR (firstR n TA TB)) := by
    rw [List.filterMap_map]
    unfold firstR lstD ksR
    rw [List.map_map, List.map_map]
    generalize List.range n = L
    have h : ∀ (f : Nat → List Nat) (M : List Nat), M.filterMap ((fun d => match d with
      | PyData.int h => some (h, PyData.list (natsD (f h.toNat)))
      | _ => none) ∘ fun (i : Nat) => PyData.int (i : Int)) = M.map fun (i : Nat) => ((i : Int), PyData.list (natsD (f i))) := by
      intro f M
      induction M with
      | nil => rfl
      | cons a M ih => rw [List.filterMap_cons_some (b := ((a : Int), PyData.list (natsD (f a)))) (by show some _ = some _; rw [Int.toNat_natCast]), ih, List.map_cons]
    exact h (fun k => L.filter fun p => decide (isort leI (rowT TB p) = isort leI (rowT TA k))) L
  refine ws_set (i := 2) (ev_lenL hA T.b_len (by walk_at "v")) S fun d' e' => ?_
  rw [l9] at e'
  subst e'
  refine ws_ret (EV.to (ev_dcF (own := [("hall", 3)]) (g := gName 3) hA S (fun i => pg_name S.nd rfl (Or.inr rfl) (Or.inl rfl)) (ei_rng1 hA T.b_range (by walk_at "v") (by omega)) (fun d => match d with
    | .int h => some (h, .list (natsD ((List.range n).filter fun p => decide (isort leI (rowT TB p) = isort leI (rowT TA h.toNat)))))
    | _ => none) ?_ fun d hd => ⟨_, tgr_name, EBs.to ebs_nil ?_, fun y e1 => ⟨?_, ?_⟩⟩) ?_) q
  · rw [rg, fm]
    have z := (firstR_ok (A := TA) (B := TB) hn).nd
    unfold lstD ksR
    rw [List.map_map, List.map_map]
    have z2 := List.pairwise_map.mpr (z.imp (S := fun a b => ((a : Nat) : Int) ≠ (b : Int)) fun h => by omega)
    rw [List.map_map] at z2
    exact z2
  · rw [rg] at hd
    obtain ⟨h, hh, rfl⟩ := List.mem_map.mp hd
    rfl
  · rw [rg] at hd
    obtain ⟨h, hh, rfl⟩ := List.mem_map.mp hd
    cases e1
    walk_at "v"
  · rw [rg] at hd
    obtain ⟨h, hh, rfl⟩ := List.mem_map.mp hd
    cases e1
    have hln : h < n := List.mem_range.mp hh
    refine EV.to (ev_lcIf (i := 4) (at_blk hA) (scBlk S) (ei_rng1 (at_blk hA) T.b_range (by walk_at "v") (by omega)) (fun d => match d with
      | .int p => decide (isort leI (rowT TB p.toNat) = isort leI (rowT TA h))
      | _ => false) (fun d => d) (fun d hd' => ?_)) ?_
    · rw [rg] at hd'
      obtain ⟨p, hp, rfl⟩ := List.mem_map.mp hd'
      have pn : p < n := List.mem_range.mp hp
      refine ⟨EB.to (eb_eq (at_blk (at_blk hA)) (ev_sortedI (at_blk (at_blk hA)) T.b_sorted (ev_row (at_blk (at_blk hA)) ob pn (by walk_at "v") (by walk_at "v"))) (ev_sortedI (at_blk (at_blk hA)) T.b_sorted (ev_row (at_blk (at_blk hA)) oa hln (by walk_at "v") (by walk_at "v"))) (shp_intL _) (shp_intL _)) (eqv_intL _ _), fun _ => by walk_at "v"⟩
    · rw [rg, List.map_id', List.filter_map] <;> rfl
  · rw [rg, fm] <;> rfl
end
end SK


set_option Elab.async false
set_option linter.all false
set_option maxRecDepth 100000
set_option maxHeartbeats 1000000
/-! Sk2d: _places, the search. -/
namespace SK
open PySem SW
open L2 hiding Same
open LamX (TabB)
local macro_rules | `(tactic| walk_at "v") => `(tactic| first | exact ev_var (fun _ => pv 0) rfl | exact ev_var (fun _ => pv 1) rfl | exact ev_var (fun _ => pv 2) rfl | exact ev_var (fun _ => pv 3) rfl | exact ev_var (fun _ => pv 4) rfl | exact ev_var (fun _ => pv 5) rfl | exact ev_var (fun _ => pv 6) rfl)
section
variable {P : Program} {w : World} {K : PySem.W.Frag} {mg : Str → Option Value} {base : Heap}
abbrev Pl := List (Nat × Nat)
def hallR (R : Rm) : Nat := (R.getD (minK (ksR R)) (0, [])).1
def placesR (n : Nat) (A B : Tb) : Nat → Rm → Option Pl
  | 0, _ => some []
  | m + 1, R => (unl n B (lookR R (hallR R))).findSome? fun place => (placesR n A B m (leftR A B R (hallR R) place)).map fun l => l ++ [(hallR R, place)]
def plD (l : Pl) : PyData := dctI (l.map fun q => ((q.1 : Int), PyData.int (q.2 : Int)))
def outP : Option Pl → PyData
  | none => .none
  | some l => plD l
theorem ksR_ne {R : Rm} (h : R ≠ []) : ksR R ≠ [] := fun z => h (List.map_eq_nil_iff.mp z)
theorem hallR_mem {R : Rm} (h : R ≠ []) : ∃ p ∈ R, p.1 = hallR R := by
  have lt := minK_lt (ksR_ne h)
  have lt' : minK (ksR R) < R.length := by
    unfold ksR at lt
    rw [List.length_map] at lt
    exact lt
  refine ⟨R[minK (ksR R)], List.getElem_mem lt', ?_⟩
  unfold hallR
  rw [List.getD_eq_getElem?_getD, List.getElem?_eq_getElem lt'] <;> rfl
theorem left_len {A B : Tb} {R : Rm} {n hall place m : Nat} (h : RmOk n R) (hl : R.length = m + 1) (hm : ∃ p ∈ R, p.1 = hall) : (leftR A B R hall place).length = m := by
  unfold leftR
  rw [List.length_map]
  obtain ⟨p, hp, e⟩ := hm
  subst e
  have nd := h.nd
  clear h
  induction R generalizing m with
  | nil => cases hp
  | cons q R ih =>
    rw [List.map_cons, List.nodup_cons] at nd
    rw [List.length_cons] at hl
    rcases List.mem_cons.mp hp with z | z
    · subst z
      rw [List.filter_cons_of_neg (by simp)]
      have e : R.filter (fun q => decide (q.1 ≠ p.1)) = R := List.filter_eq_self.mpr fun q hq => by
        rw [decide_eq_true_eq]
        exact fun z => nd.1 (List.mem_map.mpr ⟨q, hq, z⟩)
      rw [e]
      omega
    · have ne : q.1 ≠ p.1 := fun y => nd.1 (List.mem_map.mpr ⟨p, z, y.symm⟩)
      rw [List.filter_cons_of_pos (by simp [ne]), List.length_cons]
      cases m with
      | zero =>
        have : R = [] := List.eq_nil_of_length_eq_zero (by omega)
        rw [this] at z
        cases z
      | succ m => rw [ih (m := m) (by omega) z nd.2]
theorem left_key {A B : Tb} {R : Rm} {hall place : Nat} {k : Nat} (h : k ∈ (leftR A B R hall place).map Prod.fst) : k ∈ R.map Prod.fst ∧ k ≠ hall := by
  unfold leftR at h
  rw [List.map_map] at h
  obtain ⟨p, hp, e⟩ := List.mem_map.mp h
  obtain ⟨h1, h2⟩ := List.mem_filter.mp hp
  have e' : p.1 = k := e
  subst e'
  exact ⟨List.mem_map.mpr ⟨p, h1, rfl⟩, of_decide_eq_true h2⟩
theorem places_key {n : Nat} {A B : Tb} : ∀ {m : Nat} {R : Rm} {l : Pl}, RmOk n R → R.length = m → placesR n A B m R = some l → (∀ q ∈ l, q.1 ∈ R.map Prod.fst) ∧ l.length = m
  | 0, R, l, _, _, h => by
    cases h
    exact ⟨fun q hq => (by cases hq), rfl⟩
  | m + 1, R, l, ok, hl, h => by
    have ne : R ≠ [] := fun z => by rw [z] at hl; cases hl
    obtain ⟨place, hp, e⟩ := List.exists_of_findSome?_eq_some h
    cases e2 : placesR n A B m (leftR A B R (hallR R) place) with
    | none => rw [e2] at e; cases e
    | some l' =>
      rw [e2] at e
      cases e
      obtain ⟨h1, h2⟩ := places_key (leftR_ok ok) (left_len ok hl (hallR_mem ne)) e2
      refine ⟨fun q hq => ?_, by rw [List.length_append, h2] <;> rfl⟩
      rcases List.mem_append.mp hq with z | z
      · exact (left_key (h1 q z)).1
      · rw [List.mem_singleton.mp z]
        obtain ⟨p, hp, e⟩ := hallR_mem ne
        exact List.mem_map.mpr ⟨p, hp, e⟩
theorem sc_places : FnScope ["here", "there", "rooms", "hall", "place", "found"] ["here", "there", "rooms"] (defScope s_places) := ⟨rfl, rfl, rfl, by decide +kernel, rfl, by decide +kernel, by decide +kernel⟩
abbrev Gpl (P : Program) (w : World) (K : PySem.W.Frag) (mg : Str → Option Value) (base : Heap) (T : Addr) (m : Nat) : Prop := Fn P w K mg base (m + 4) "_places" ["here", "there", "rooms"]
  (spX [T] (fun x : Nat × Tb × Tb × Rm => [dT x.2.1, dT x.2.2.1, dR x.2.2.2]) (fun x => TabOk x.1 x.2.1 ∧ TabOk x.1 x.2.2.1 ∧ RmOk x.1 x.2.2.2 ∧ x.2.2.2.length = m) (fun x => outP (placesR x.1 x.2.1 x.2.2.1 m x.2.2.2)) 3)
theorem lstD_empty (R : Rm) : (lstD (ksR R)).isEmpty = R.isEmpty := by cases R <;> rfl
theorem fn_places_step (T : Tx K mg) {c t : Addr} (Dc : DfC K mg "_places" s_places ["here", "there", "rooms"] c) (TB : TabB base mg c t) (gu : Gunl P w K mg base) (gl : Gleft P w K mg base) {m : Nat} (ih : ∀ m', m = m' + 1 → Gpl P w K mg base t m') : Gpl P w K mg base t m := by
  refine Dc.fnX sc_places (fun _ _ => rfl) fun f A outer s H1 H0 Q ⟨n, TA, B, R⟩ hA S ⟨oa, ob, ok, hl⟩ ht q => ?_
  have oa : TabOk n TA := oa
  have ob : TabOk n B := ob
  have ok : RmOk n R := ok
  have hl : R.length = m := hl
  have tab : TabF H0 t := ht t List.mem_cons_self
  refine ws_ifr (b := R.isEmpty) (EB.to (eb_not (eb_truthD (ks := lstD (ksR R)) (by walk_at "v"))) (by rw [Bool.not_not, lstD_empty])) (fun e => ?_) fun e => ?_
  · have e1 : R = [] := List.isEmpty_iff.mp e
    subst e1
    subst hl
    exact ws_ret ev_dict0 q
  · have ne : R ≠ [] := fun z => by rw [z] at e; cases e
    obtain ⟨m', rfl⟩ : ∃ m', m = m' + 1 := ⟨m - 1, by have := List.length_pos_iff.mpr ne; omega⟩
    have nd : ((ksR R).map Prod.fst).Nodup := by
      have z := List.pairwise_map.mpr (ok.nd.imp (S := fun a b => ((a : Nat) : Int) ≠ (b : Int)) fun h => by omega)
      unfold ksR
      rw [List.map_map]
      rw [List.map_map] at z
      exact z
    have mh : ((ksR R).getD (minK (ksR R)) (0, [])).1 = (hallR R : Int) := by
      have lt := minK_lt (ksR_ne ne)
      unfold hallR
      generalize minK (ksR R) = j at lt
      have lt' : j < R.length := by
        have z := lt
        unfold ksR at z
        rw [List.length_map] at z
        exact z
      have e1 : (ksR R)[j]? = some (((R[j]).1 : Int), natsD (R[j]).2) := by
        unfold ksR
        rw [List.getElem?_map, List.getElem?_eq_getElem lt'] <;> rfl
      rw [List.getD_eq_getElem?_getD, List.getD_eq_getElem?_getD, e1, List.getElem?_eq_getElem lt'] <;> rfl
    refine ws_set (i := 3) (EV.to (ev_minLen (ks := ksR R) (j := 2) (y := "each") (r := "rooms") (c := c) (P' := t) hA T.b_min T.b_len rfl (ksR_ne ne) nd tab TB (fun _ => rfl) (fun _ => rfl) (NdefX.nscope_by (by decide +kernel)) (fun _ => NdefX.ndef_free (sc := defScope s_places) (fr := ["rooms"]) (by decide +kernel)) (NdefX.ndef_fr (sc := defScope s_places) (by decide +kernel)) (fun _ => rfl) (fun _ => pv 2) (fun _ _ _ _ _ _ => rfl) (fun _ => rfl) rfl rfl rfl) (by rw [mh])) S fun d' e' => ?_
    subst e'
    obtain ⟨p0, hp0, ep0⟩ := hallR_mem ne
    have hn13 := oa.hi
    have hk : hallR R < n := ep0 ▸ ok.key p0 hp0
    have hlk : lookR R (hallR R) = p0.2 := ep0 ▸ lookR_mem ok.nd hp0
    have hvals : ∀ x ∈ lookR R (hallR R), x < n := fun x hx => by rw [hlk] at hx; exact ok.val p0 hp0 x hx
    have hfew : (lookR R (hallR R)).length ≤ 13 := by rw [hlk]; exact ok.few p0 hp0
    have look0 : lookI (lstD (ksR R)) (hallR R : Int) = some (.list (natsD (lookR R (hallR R)))) := ep0 ▸ lookI_R hp0
    let us := unl n B (lookR R (hallR R))
    have usn : ∀ x ∈ us, x < n := fun x hx => by
      rcases unl_sub _ _ x hx with z | z
      · cases z
      · exact hvals x z
    have gpl := ih m' rfl
    have okl : ∀ place, RmOk n (leftR TA B R (hallR R) place) := fun place => leftR_ok ok
    have lenl : ∀ place, (leftR TA B R (hallR R) place).length = m' := fun place => left_len ok hl (hallR_mem ne)
    have fs : ∀ (v : V) (H' : Hp) (d' : PyData), Same H0 H' → Rp H' v d' → d' = outP (us.findSome? fun place => (placesR n TA B m' (leftR TA B R (hallR R) place)).map fun l => l ++ [(hallR R, place)]) → Q v H' := q
    refine ws_for hA (ei_list hA (ev_callX hA (gu.up (by omega)) (n, B, lookR R (hallR R)) ⟨ob, hvals, by show (lookR R (hallR R)).length ≤ 900; omega⟩ (el2 (by walk_at "v") (ev_ixD hA (by walk_at "v") (by walk_at "v") look0)))) (g := gName 4) (fun i => pg_name S.nd rfl (Or.inl rfl) (Or.inl rfl))
      (fun i ρ' => ∃ o4 o5, ρ' = [some (.dat (dT TA)), some (.dat (dT B)), some (.dat (dR R)), some (.dat (.int (hallR R : Int))), o4, o5] ∧ ∀ x ∈ us.take i, placesR n TA B m' (leftR TA B R (hallR R) x) = none) ⟨none, none, rfl, fun x hx => by simp at hx⟩ ?_ ?_ (fun _ => PassesOwn.never)
    · rintro i d ρ' H2 hd ⟨o4, o5, rfl, none_⟩ s2
      have hd : (natsD us)[i]? = some d := hd
      rw [List.getElem?_map] at hd
      obtain ⟨place, hpl, rfl⟩ := Option.map_eq_some_iff.mp hd
      have pn : place < n := usn place (List.mem_of_getElem? hpl)
      refine ⟨_, tgr_name.to0, fun N hN => ?_⟩
      refine ws_set (i := 5) (ev_callX hA (gpl.up (by omega)) (n, TA, B, leftR TA B R (hallR R) place) ⟨oa, ob, okl place, lenl place⟩ (el3 (by walk_at "v") (by walk_at "v") (ev_callX hA (gl.up (by omega)) (n, TA, B, R, hallR R, place) ⟨oa, ob, ok, hk, pn⟩ (el_cons (by walk_at "v") (el_cons (by walk_at "v") (el3 (by walk_at "v") (by walk_at "v") (by walk_at "v")))))) (ht := fun P' hP => s2.tab _ (ht P' hP))) S fun d' e' => ?_
      subst e'
      cases hpr : placesR n TA B m' (leftR TA B R (hallR R) place) with
      | none =>
        refine ws_ifr (b := false) (EB.to (eb_not_non (by walk_at "v")) rfl) (fun c => by cases c) fun _ => ws_nil fun σ H s3 r => hN _ σ H ⟨_, _, rfl, fun x hx => ?_⟩ s3 r
        rw [List.take_succ, hpl] at hx
        rcases List.mem_append.mp hx with z | z
        · exact none_ x z
        · rw [show x = place by simpa using z]; exact hpr
      | some l =>
        obtain ⟨k1, k2⟩ := places_key (okl place) (lenl place) hpr
        refine ws_ifr (b := true) (EB.to (eb_not_non (by walk_at "v")) rfl) (fun _ => ?_) fun c => by cases c
        refine ws_ret (ev_star (im := 5) (ik := 3) (iv := 4) (ks := l.map fun q => ((q.1 : Int), PyData.int (q.2 : Int))) (n := (hallR R : Int)) (d := .int (place : Int)) rfl rfl rfl (fun z => ?_) (by rw [List.length_map, k2]; have := ok.len; omega)) fun v H d s3 r e => fs v H d (s2.trans s3) r ?_
        · rw [List.map_map] at z
          obtain ⟨y, hy, e⟩ := List.mem_map.mp z
          have e' : (y.1 : Int) = (hallR R : Int) := e
          exact (left_key (k1 y hy)).2 (by omega)
        · rw [e]
          have first : us.findSome? (fun place => (placesR n TA B m' (leftR TA B R (hallR R) place)).map fun l => l ++ [(hallR R, place)]) = some (l ++ [(hallR R, place)]) := by
            have cut : us = us.take i ++ place :: us.drop (i + 1) := by
              have lt := (List.getElem?_eq_some_iff.mp hpl)
              obtain ⟨lt, eq⟩ := lt
              rw [← eq, ← List.drop_eq_getElem_cons lt, List.take_append_drop]
            rw [cut, List.findSome?_append, List.findSome?_cons, hpr]
            have z : (us.take i).findSome? (fun place => (placesR n TA B m' (leftR TA B R (hallR R) place)).map fun l => l ++ [(hallR R, place)]) = none := List.findSome?_eq_none_iff.mpr fun x hx => by rw [none_ x hx] <;> rfl
            rw [z] <;> rfl
          rw [first]
          show _ = plD _
          unfold plD
          rw [List.map_append] <;> rfl
    · rintro ρ' ⟨o4, o5, rfl, none_⟩
      have hnone : us.findSome? (fun place => (placesR n TA B m' (leftR TA B R (hallR R) place)).map fun l => l ++ [(hallR R, place)]) = none := by
        refine List.findSome?_eq_none_iff.mpr fun x hx => ?_
        have z : (natsD us).length = us.length := List.length_map _
        have none_ : ∀ x ∈ us.take (natsD us).length, placesR n TA B m' (leftR TA B R (hallR R) x) = none := none_
        rw [z, List.take_length] at none_
        rw [none_ x hx] <;> rfl
      exact ws_ret ev_non fun v H d s r e => fs v H d s r (by rw [e, hnone] <;> rfl)
theorem fn_places (T : Tx K mg) {c t : Addr} (Dc : DfC K mg "_places" s_places ["here", "there", "rooms"] c) (TB : TabB base mg c t) (gu : Gunl P w K mg base) (gl : Gleft P w K mg base) : ∀ m, Gpl P w K mg base t m
  | 0 => fn_places_step T Dc TB gu gl fun m' h => by cases h
  | m + 1 => fn_places_step T Dc TB gu gl fun m' h => by cases h; exact fn_places T Dc TB gu gl m
/-! ### _count_reached -/
def reach (n : Nat) (T : Tb) (R : Rm) (hall : Nat) : Nat := ((lookR R hall).filter fun p => (placesR n T T (R.length - 1) (leftR T T R hall p)).isSome).length
theorem sc_count_reached : FnScope ["table", "rooms", "hall", "many", "place"] ["table", "rooms", "hall"] (defScope s_count_reached) := ⟨rfl, rfl, rfl, by decide +kernel, rfl, by decide +kernel, by decide +kernel⟩
abbrev Gcr (P : Program) (w : World) (K : PySem.W.Frag) (mg : Str → Option Value) (base : Heap) (t : Addr) : Prop := Fn P w K mg base 17 "_count_reached" ["table", "rooms", "hall"]
  (spX [t] (fun x : Nat × Tb × Rm × Nat => [dT x.2.1, dR x.2.2.1, .int x.2.2.2]) (fun x => TabOk x.1 x.2.1 ∧ RmOk x.1 x.2.2.1 ∧ ∃ p ∈ x.2.2.1, p.1 = x.2.2.2) (fun x => .int (reach x.1 x.2.1 x.2.2.1 x.2.2.2)) 3)
theorem isNon_outP (o : Option Pl) : (!isNon (outP o)) = o.isSome := by cases o <;> rfl
theorem fn_count_reached (T : Tx K mg) {t : Addr} (gl : Gleft P w K mg base) (gp : ∀ m, Gpl P w K mg base t m) : Gcr P w K mg base t := by
  refine T.d_count_reached.fnX sc_count_reached (fun _ _ => rfl) fun f cdv A outer s H1 H0 Q ⟨n, B, R, hall⟩ hA S ⟨ob, ok, hk⟩ ht q => ?_
  have ob : TabOk n B := ob
  have ok : RmOk n R := ok
  obtain ⟨p0, hp0, e0⟩ := hk
  have hp0 : p0 ∈ R := hp0
  have e0 : p0.1 = hall := e0
  subst e0
  have hkn : p0.1 < n := ok.key p0 hp0
  have hlk := lookR_mem ok.nd hp0
  have len1 : R.length ≤ 13 := ok.len
  have pos : 0 < R.length := List.length_pos_iff.mpr fun z => by rw [z] at hp0; cases hp0
  have lenl : ∀ place, (leftR B B R p0.1 place).length = R.length - 1 := fun place => left_len ok (by omega) ⟨p0, hp0, rfl⟩
  have gp' := gp (R.length - 1)
  have q : ∀ (v : V) (H' : Hp) (d' : PyData), Same H0 H' → Rp H' v d' → d' = .int (((lookR R p0.1).filter fun p => (placesR n B B (R.length - 1) (leftR B B R p0.1 p)).isSome).length : Nat) → Q v H' := q
  refine ws_set (i := 3) ev_int S fun d' e' => ?_
  subst e'
  refine ws_for hA (ei_list hA (ev_ixD hA (by walk_at "v") (by walk_at "v") (lookI_R hp0))) (g := gName 4) (fun i => pg_name S.nd rfl (Or.inl rfl) (Or.inl rfl))
    (fun i ρ' => ∃ o4, ρ' = [some (.dat (dT B)), some (.dat (dR R)), some (.dat (.int (p0.1 : Int))), some (.dat (.int ((((lookR R p0.1).take i).filter fun p => (placesR n B B (R.length - 1) (leftR B B R p0.1 p)).isSome).length : Nat))), o4]) ⟨none, rfl⟩ ?_ ?_ (fun _ => PassesOwn.never)
  · rintro i d ρ' H2 hd ⟨o4, rfl⟩ s2
    rw [List.getElem?_map] at hd
    obtain ⟨place, hpl, rfl⟩ := Option.map_eq_some_iff.mp hd
    have pn : place < n := by
      have := List.mem_of_getElem? hpl
      rw [hlk] at this
      exact ok.val p0 hp0 _ this
    refine ⟨_, tgr_name.to0, fun N hN => ?_⟩
    have tk : (lookR R p0.1).take (i + 1) = (lookR R p0.1).take i ++ [place] := by rw [List.take_succ, hpl] <;> rfl
    refine ws_if (eb_not_non (ev_callX hA (gp'.up (by omega)) (n, B, B, leftR B B R p0.1 place) ⟨ob, ob, leftR_ok ok, lenl place⟩ (el3 (by walk_at "v") (by walk_at "v") (ev_callX hA (gl.up (by omega)) (n, B, B, R, p0.1, place) ⟨ob, ob, ok, hkn, pn⟩ (el_cons (by walk_at "v") (el_cons (by walk_at "v") (el3 (by walk_at "v") (by walk_at "v") (by walk_at "v")))))) (ht := fun P' hP => s2.tab _ (ht P' hP)))) (fun c => ?_) fun c => ?_
    · rw [isNon_outP] at c
      have e : (((lookR R p0.1).take (i + 1)).filter fun p => (placesR n B B (R.length - 1) (leftR B B R p0.1 p)).isSome).length = (((lookR R p0.1).take i).filter fun p => (placesR n B B (R.length - 1) (leftR B B R p0.1 p)).isSome).length + 1 := by
        have c' : (placesR n B B (R.length - 1) (leftR B B R p0.1 place)).isSome = true := c.symm
        rw [tk, List.filter_append, List.filter_cons_of_pos (by exact c'), List.length_append] <;> rfl
      refine ws_augAdd (i := 3) rfl ev_int S (ws_nil fun σ H s3 r => wb_nil (hN _ σ H ⟨some (.dat (.int (place : Int))), ?_⟩ s3 r))
      rw [e, Int.natCast_add] <;> rfl
    · rw [isNon_outP] at c
      have e : ((lookR R p0.1).take (i + 1)).filter (fun p => (placesR n B B (R.length - 1) (leftR B B R p0.1 p)).isSome) = ((lookR R p0.1).take i).filter fun p => (placesR n B B (R.length - 1) (leftR B B R p0.1 p)).isSome := by
        have c' : (placesR n B B (R.length - 1) (leftR B B R p0.1 place)).isSome = false := c.symm
        rw [tk, List.filter_append, List.filter_cons_of_neg (by rw [c']; exact Bool.false_ne_true), List.filter_nil, List.append_nil]
      refine ws_nil fun σ H s3 r => wb_nil (hN _ σ H ⟨some (.dat (.int (place : Int))), ?_⟩ s3 r)
      rw [e] <;> rfl
  · rintro ρ' ⟨o4, rfl⟩
    have e : (natsD (lookR R p0.1)).length = (lookR R p0.1).length := List.length_map _
    rw [e, List.take_length]
    exact ws_ret (by walk_at "v") q
end
end SK


set_option Elab.async false
set_option linter.all false
set_option maxRecDepth 100000
set_option maxHeartbeats 1000000
/-! Sk2e: join_table. -/
namespace SK
open PySem SW
open L2 hiding Same
local macro_rules | `(tactic| walk_at "v") => `(tactic| first | exact ev_var (fun _ => pv 0) rfl | exact ev_var (fun _ => pv 1) rfl | exact ev_var (fun _ => pv 2) rfl | exact ev_var (fun _ => pv 3) rfl | exact ev_var (fun _ => pv 4) rfl | exact ev_var (fun _ => pv 5) rfl | exact ev_var (fun _ => pv 6) rfl)
section
variable {P : Program} {w : World} {K : PySem.W.Frag} {mg : Str → Option Value} {base : Heap}
abbrev Wy := List (Nat × Nat)
def wyD (ws : Wy) : List PyData := ws.map fun p => pairI ((p.1 : Int), (p.2 : Int))
def netN (n : Nat) (ws : Wy) : PyData := .tuple [.int (n : Int), .tuple (wyD ws)]
structure NetOk (n : Nat) (ws : Wy) : Prop where
  lo : 1 ≤ n
  hi : n ≤ 13
  way : ∀ p ∈ ws, p.1 < n ∧ p.2 < n ∧ p.1 ≠ p.2
  len : ws.length ≤ 900
def addT (T : Tb) (i j : Nat) (c : Int) : Tb := T.set i ((rowT T i).set j (tv T i j + c))
def setT (T : Tb) (i j : Nat) (c : Int) : Tb := T.set i ((rowT T i).set j c)
def wayT (T : Tb) (p : Nat × Nat) : Tb := addT (addT T p.1 p.2 1) p.2 p.1 2
def zeroT (n : Nat) : Tb := List.replicate n (List.replicate n 0)
def joinT (n : Nat) (ws : Wy) : Tb := (List.range n).foldl (fun T h => setT T h h 4) (ws.foldl wayT (zeroT n))
theorem addT_ok {n : Nat} {T : Tb} {i j : Nat} {c : Int} (h : TabOk n T) (hi : i < n) : TabOk n (addT T i j c) := ⟨h.lo, h.hi, by unfold addT; rw [List.length_set]; exact h.len, fun r hr => by
  rcases List.mem_or_eq_of_mem_set hr with z | z
  · exact h.row r z
  · rw [z, List.length_set]; exact (h.rw_ hi).2⟩
theorem setT_ok {n : Nat} {T : Tb} {i j : Nat} {c : Int} (h : TabOk n T) (hi : i < n) : TabOk n (setT T i j c) := ⟨h.lo, h.hi, by unfold setT; rw [List.length_set]; exact h.len, fun r hr => by
  rcases List.mem_or_eq_of_mem_set hr with z | z
  · exact h.row r z
  · rw [z, List.length_set]; exact (h.rw_ hi).2⟩
theorem zeroT_ok {n : Nat} (h1 : 1 ≤ n) (h2 : n ≤ 13) : TabOk n (zeroT n) := ⟨h1, h2, List.length_replicate, fun r hr => by rw [(List.mem_replicate.mp hr).2]; exact List.length_replicate⟩
/-- the table T stands at D, its rows at as -/
structure TabAt (H0 H : Hp) (D : Addr) (as : List Addr) (n : Nat) (T : Tb) : Prop where
  ok : TabOk n T
  len : as.length = n
  nd : as.Nodup
  out : D ∉ as
  at_ : H D = some (.lst (as.map V.ref))
  row : ∀ (i : Nat) (a : Addr), as[i]? = some a → H a = some (.lst ((rowT T i).map .int))
  frD : Fr H0 D
  fr : ∀ a ∈ as, Fr H0 a
  same : Same H0 H
theorem rowT_set {T : Tb} {i j : Nat} {r : List Int} (h : i < T.length) : rowT (T.set i r) j = if j = i then r else rowT T j := by
  unfold rowT
  rw [List.getD_eq_getElem?_getD, List.getD_eq_getElem?_getD]
  by_cases e : j = i
  · subst e
    rw [if_pos rfl, List.getElem?_set_self h] <;> rfl
  · rw [if_neg e, List.getElem?_set_ne (fun z => e z.symm)]
theorem TabAt.write {H0 H : Hp} {D : Addr} {as : List Addr} {n : Nat} {T : Tb} (t : TabAt H0 H D as n T) {i : Nat} {a : Addr} (hi : i < n) (ha : as[i]? = some a) {r : List Int} (hr : r.length = n) : TabAt H0 (upd H a (.lst (r.map .int))) D as n (T.set i r) := by
  have am : a ∈ as := List.mem_of_getElem? ha
  refine ⟨⟨t.ok.lo, t.ok.hi, by rw [List.length_set]; exact t.ok.len, fun r' hr' => ?_⟩, t.len, t.nd, t.out, ?_, fun j b hb => ?_, t.frD, t.fr, same_hideW t.same (t.fr a am) (t.row i a ha)⟩
  · rcases List.mem_or_eq_of_mem_set hr' with z | z
    · exact t.ok.row r' z
    · rw [z]; exact hr
  · rw [upd_ne (fun e => t.out (by rw [e]; exact am))]
    exact t.at_
  · rw [rowT_set (by rw [t.ok.len]; exact hi)]
    by_cases e : j = i
    · subst e
      rw [ha] at hb
      cases hb
      rw [if_pos rfl, upd_same]
    · rw [if_neg e, upd_ne ?_]
      · exact t.row j b hb
      · intro z
        subst z
        have h1 := List.getElem?_eq_some_iff.mp ha
        have h2 := List.getElem?_eq_some_iff.mp hb
        obtain ⟨l1, e1⟩ := h1
        obtain ⟨l2, e2⟩ := h2
        exact e ((List.getElem_inj t.nd).mp (e2.trans e1.symm))
theorem TabAt.get {H0 H : Hp} {D : Addr} {as : List Addr} {n : Nat} {T : Tb} (t : TabAt H0 H D as n T) {i : Nat} (hi : i < n) : ∃ a, as[i]? = some a ∧ (as.map V.ref)[i]? = some (.ref a) ∧ H a = some (.lst ((rowT T i).map .int)) := by
  have lt : i < as.length := by rw [t.len]; exact hi
  exact ⟨as[i], List.getElem?_eq_getElem lt, by rw [List.getElem?_map, List.getElem?_eq_getElem lt] <;> rfl, t.row i _ (List.getElem?_eq_getElem lt)⟩
theorem take_foldl {α β : Type} (f : β → α → β) (b : β) {l : List α} {i : Nat} {x : α} (h : l[i]? = some x) : (l.take (i + 1)).foldl f b = f ((l.take i).foldl f b) x := by
  rw [List.take_add_one, h, List.foldl_append] <;> rfl
theorem TabAt.rp {H0 H : Hp} {D : Addr} {as : List Addr} {n : Nat} {T : Tb} (t : TabAt H0 H D as n T) : Rp H (.ref D) (dT T) := by
  refine .lst t.at_ ?_
  have go : ∀ (bs : List Addr) (U : Tb), bs.length = U.length → (∀ (i : Nat) (a : Addr), bs[i]? = some a → H a = some (.lst ((rowT U i).map .int))) → RpA H (bs.map V.ref) (U.map fun r => PyData.list (r.map .int)) := by
    intro bs
    induction bs with
    | nil => intro U hl _; rw [List.eq_nil_of_length_eq_zero hl.symm]; exact .nil
    | cons b bs ih =>
      intro U hl h
      cases U with
      | nil => cases hl
      | cons r U => exact .cons (.lst (h 0 b rfl) (RpA.ints _)) (ih U (by simpa using hl) fun i a ha => h (i + 1) a (by simpa using ha))
  exact go as T (t.len.trans t.ok.len.symm) t.row
theorem sc_join_table : FnScope ["net", "halls", "_", "table", "start", "end", "hall"] ["net"] (defScope s_join_table) := ⟨rfl, rfl, rfl, by decide +kernel, rfl, by decide +kernel, by decide +kernel⟩
abbrev Gjt (P : Program) (w : World) (K : PySem.W.Frag) (mg : Str → Option Value) (base : Heap) : Prop := Fn P w K mg base 1 "join_table" ["net"]
  (spX [] (fun x : Nat × Wy => [netN x.1 x.2]) (fun x => NetOk x.1 x.2) (fun x => dT (joinT x.1 x.2)) 1)
theorem fn_join_table (T : Tx K mg) : Gjt P w K mg base := by
  refine T.d_join_table.fnX sc_join_table (fun _ _ => rfl) fun f cdv A outer s H1 H0 Q ⟨n, ws⟩ hA S ok ht q => ?_
  have ok : NetOk n ws := ok
  have h1 := ok.lo
  have h2 := ok.hi
  refine ws_set (i := 1) (ev_ixT hA (ds := [.int (n : Int), .tuple (wyD ws)]) (by walk_at "v") ev_int rfl) S fun d' e' => ?_
  subst e'
  refine .mk fun σ H sm r => ?_
  obtain ⟨vn, e0, r0⟩ := r.get (i := 0) rfl
  obtain ⟨v1, e1, r1⟩ := r.get (i := 1) rfl
  cases r1
  have lenσ := r.len
  unfold netN at r0
  cases r0 with
  | @tup an xs0 _ hnet t0 =>
    obtain ⟨u0, u1, rfl, q0, q1⟩ := t0.two
    cases q0
    cases q1 with
    | @tup aw xs _ hways tw =>
      refine wb_setTable (n := n) (x := 0) (ih := 1) (iz := 2) (i0 := 3) hA S T.b_range e1 (by omega) (by decide) (fun _ => pv 1) (fun _ => pv 1) fun D as H2 a1 a2 a3 a4 a5 a6 a7 s2 => ?_
      have t0 : TabAt H H2 D as n (zeroT n) := ⟨zeroT_ok h1 h2, a1, a2, a3, a4, fun i a ha => by
        have lt : i < n := by
          have := (List.getElem?_eq_some_iff.mp ha).1
          omega
        have e : rowT (zeroT n) i = List.replicate n 0 := by
          unfold rowT zeroT
          rw [List.getD_eq_getElem?_getD, List.getElem?_replicate, if_pos lt] <;> rfl
        rw [a5 a (List.mem_of_getElem? ha), e, List.map_replicate], a6, a7, s2⟩
      have getA : ∀ i, i < n → ∃ a, as[i]? = some a := fun i lt => ⟨_, List.getElem?_eq_getElem (by rw [a1]; exact lt)⟩
      have l7 : ∀ (i : Nat) (u v : Option V) (τ : St), τ.length = 7 → ((τ.set 4 u).set 5 v).length = 7 := fun i u v τ h => by rw [List.length_set, List.length_set]; exact h
      refine wb_forR (J := Itt K aw) (ti := iTup K (tOp (rIxT K) (tVar 0) (tC (.int 1)))) hA (fun i => (hA i).K ▸ pi_tup (pe_ix ix_tup (pv 0) pe_int (fun _ _ => rfl))) (fun R h => ⟨.ref an, by rw [List.getElem?_set_ne (by decide)]; exact e0, ?_⟩) (pg_two (i := 4) (j := 5) hA S.ndx) ws.length
        (fun i σ' H' => σ'.length = 7 ∧ σ'[1]? = some (some (.int (n : Int))) ∧ σ'[3]? = some (some (.ref D)) ∧ TabAt H H' D as n ((ws.take i).foldl wayT (zeroT n)))
        ⟨by rw [List.length_set]; exact lenσ, by rw [List.getElem?_set_ne (by decide)]; exact e1, List.getElem?_set_self (by rw [lenσ]; exact (by decide : 3 < 7)), t0⟩ (fun i σ' H' lt ⟨l1, l2, l3, tt⟩ => ?_) (fun σ' H' ⟨l1, l2, l3, tt⟩ => ⟨⟨_, SqT.of (tt.same _ _ hways), by rw [tw.length]; unfold wyD; rw [List.length_map]; exact Nat.le_refl _⟩, ?_⟩) (fun _ => PassesOwn.never)
      · exact ⟨an, _, 1, .ref aw, rfl, rfl, SqT.of (s2 _ _ hnet), rfl, aw, rfl, ⟨_, SqT.of (s2 _ _ hways)⟩, h⟩
      · obtain ⟨p, hp⟩ : ∃ p, ws[i]? = some p := ⟨_, List.getElem?_eq_getElem lt⟩
        obtain ⟨w1, w2, w3⟩ := ok.way p (List.mem_of_getElem? hp)
        have hw' := tt.same _ _ hways
        obtain ⟨u, hu, ru⟩ := tw.get' (i := i) (d := pairI ((p.1 : Int), (p.2 : Int))) (by unfold wyD; rw [List.getElem?_map, hp] <;> rfl)
        refine ⟨⟨_, u, SqT.of hw', hu⟩, fun x H4 ⟨e4, y⟩ N hN => ?_⟩
        subst e4
        obtain rfl : x = u := Option.some.inj ((y _ (SqT.of hw')).symm.trans hu)
        unfold pairI at ru
        cases ru with
        | @tup ap xp _ hp' tp =>
          obtain ⟨v0, v1, rfl, q0, q1⟩ := tp.two
          cases q0
          cases q1
          refine ⟨ap, _, rfl, SqT.of (tt.same _ _ hp'), rfl, _, _, rfl, _, _, rfl, rfl, ?_⟩
          have m3 : ((σ'.set 4 (some (.int (p.1 : Int)))).set 5 (some (.int (p.2 : Int))))[3]? = some (some (.ref D)) := by
            rw [List.getElem?_set_ne (by decide), List.getElem?_set_ne (by decide)]; exact l3
          have m4 : ((σ'.set 4 (some (.int (p.1 : Int)))).set 5 (some (.int (p.2 : Int))))[4]? = some (some (.int (p.1 : Int))) := by
            rw [List.getElem?_set_ne (by decide), List.getElem?_set_self (by rw [l1]; decide)]
          have m5 : ((σ'.set 4 (some (.int (p.1 : Int)))).set 5 (some (.int (p.2 : Int))))[5]? = some (some (.int (p.2 : Int))) := List.getElem?_set_self (by rw [List.length_set, l1]; decide)
          obtain ⟨a, g1, g2, g3⟩ := tt.get w1
          have rl : ∀ {T : Tb}, TabOk n T → ∀ {i j : Nat} {c : Int}, i < n → ((rowT T i).set j c).length = n := fun h i j c lt => by rw [List.length_set]; exact (h.rw_ lt).2
          refine wb_augCell (js := 4) (je := 5) (jt := 3) hA (fun _ => pv 3) (fun _ => pv 4) (fun _ => pv 5) m3 m4 m5 tt.at_ g2 g3 (tt.ok.at_ w1 w2) ?_
          have t1 := tt.write w1 g1 (rl (j := p.2) (c := tv ((ws.take i).foldl wayT (zeroT n)) p.1 p.2 + 1) tt.ok w1)
          obtain ⟨b, f1, f2, f3⟩ := t1.get w2
          refine wb_augCell (js := 5) (je := 4) (jt := 3) hA (fun _ => pv 3) (fun _ => pv 5) (fun _ => pv 4) m3 m5 m4 t1.at_ f2 f3 (t1.ok.at_ w2 w1) ?_
          have t2 := t1.write w2 f1 (rl (j := p.1) (c := tv (addT ((ws.take i).foldl wayT (zeroT n)) p.1 p.2 1) p.2 p.1 + 2) t1.ok w2)
          refine wb_nil (hN _ _ ⟨l7 0 _ _ _ l1, ?_, m3, ?_⟩)
          · rw [List.getElem?_set_ne (by decide), List.getElem?_set_ne (by decide)]; exact l2
          · rw [take_foldl _ _ hp]
            exact t2
      · rw [List.take_length] at tt
        refine wb_forR (J := Itr 0 n) (ti := iRng1 (tCons (tVar 1) tNil)) hA (fun i => pi_range1 rfl (by rw [(hA i).mg]; exact T.b_range) (pa_cons (pv 1) pa_nil rfl)) (fun R h => ⟨_, l2, (n : Int), rfl, by omega, by omega, h⟩) (fun i => pg_name (i := 6) (S.ndx i) rfl (Or.inl rfl) (by first | exact Or.inl rfl | exact Or.inr rfl)) n
          (fun i σ'' H'' => σ''.length = 7 ∧ σ''[3]? = some (some (.ref D)) ∧ TabAt H H'' D as n ((List.range i).foldl (fun T h => setT T h h 4) (ws.foldl wayT (zeroT n))))
          ⟨l1, l3, tt⟩ (fun i σ'' H'' lt ⟨l1, l3, tt⟩ => ?_) (fun σ'' H'' ⟨l1, l3, tt⟩ => ⟨Nat.le_refl _, ?_⟩) (fun _ => PassesOwn.never)
        · refine ⟨lt, fun x H4 ⟨e4, y⟩ N hN => ?_⟩
          subst e4 y
          rw [Int.zero_add]
          obtain ⟨a, g1, g2, g3⟩ := tt.get lt
          have m3 : (σ''.set 6 (some (.int (i : Int))))[3]? = some (some (.ref D)) := by
            rw [List.getElem?_set_ne (by decide)]; exact l3
          have m6 : (σ''.set 6 (some (.int (i : Int))))[6]? = some (some (.int (i : Int))) := List.getElem?_set_self (by rw [l1]; decide)
          refine wb_setCell (js := 6) (je := 6) (jt := 3) hA (fun _ => pv 3) (fun _ => pv 6) (fun _ => pv 6) m3 m6 m6 tt.at_ g2 g3 (by rw [(tt.ok.rw_ lt).2]; exact lt) ?_
          have t2 := tt.write lt g1 (r := (rowT ((List.range i).foldl (fun T h => setT T h h 4) (ws.foldl wayT (zeroT n))) i).set i 4) (by rw [List.length_set]; exact (tt.ok.rw_ lt).2)
          refine wb_nil (hN _ _ ⟨by rw [List.length_set]; exact l1, m3, ?_⟩)
          rw [List.range_succ, List.foldl_append]
          exact t2
        · exact wb_ret (Φ := fun d => d = dT (joinT n ws)) (de_var (v := .ref D) (fun _ => pv 3) l3 tt.rp) fun v H2 d s2 rv e => q v H2 d (sm.trans (tt.same.trans s2)) rv e
end
end SK


set_option Elab.async false
set_option linter.all false
set_option maxRecDepth 100000
set_option maxHeartbeats 1000000
namespace SK
open PySem SW
open L2 hiding Same
local macro_rules | `(tactic| walk_at "v") => `(tactic| first | exact ev_var (fun _ => pv 0) rfl | exact ev_var (fun _ => pv 1) rfl | exact ev_var (fun _ => pv 2) rfl | exact ev_var (fun _ => pv 3) rfl | exact ev_var (fun _ => pv 4) rfl | exact ev_var (fun _ => pv 5) rfl | exact ev_var (fun _ => pv 6) rfl)
section
variable {P : Program} {w : World} {K : PySem.W.Frag} {mg : Str → Option Value} {base : Heap}
theorem sc_check_web : FnScope ["value", "wrong"] ["value"] (defScope s_check_web) := ⟨rfl, rfl, rfl, by decide +kernel, rfl, by decide +kernel, by decide +kernel⟩
theorem fn_check_web (T : Tx K mg) (g : Fn P w K mg base 3 "wrong_in_web" ["value"] (spE f_wrong_in_web 1)) : Fn P w K mg base 4 "check_web" ["value"] (spE f_check_web 1) := by
  refine T.d_check_web.fnE sc_check_web fun f cdv A outer s H1 H0 Q ds d hA S hf hl q => ?_
  obtain ⟨d0, rfl⟩ := len1 hl rfl
  have hw : wrongWeb d0 = "" ∧ d = .none := by
    have hf' : (if wrongWeb d0 = "" then some PyData.none else none) = some d := hf
    by_cases c : wrongWeb d0 = ""
    · rw [if_pos c] at hf'; exact ⟨c, (Option.some.inj hf').symm⟩
    · rw [if_neg c] at hf'; cases hf'
  obtain ⟨hw, rfl⟩ := hw
  refine ws_set (i := 1) (ev_call hA g (el1 (by walk_at "v")) (by rfl)) S fun d' e => ?_
  subst e
  refine ws_no (EB.to (eb_neS (by walk_at "v") ev_str) (by rw [hw]; rfl)) ?_
  exact ws_nil fun σ H s r => q .non H _ s .non rfl
theorem sc_check_number : FnScope ["value", "low", "high"] ["value", "low", "high"] (defScope s_check_number) := ⟨rfl, rfl, rfl, by decide +kernel, rfl, by decide +kernel, by decide +kernel⟩
theorem fn_check_number (T : Tx K mg) (g : Gnum P w K mg base) : Fn P w K mg base 2 "check_number" ["value", "low", "high"] (spE f_check_number 3) := by
  refine T.d_check_number.fnE sc_check_number fun f cdv A outer s H1 H0 Q ds d hA S hf hl q => ?_
  obtain ⟨d0, lo, hi, rfl, hn, rfl⟩ : ∃ d0 lo hi, ds = [d0, .int lo, .int hi] ∧ isNum d0 lo hi = true ∧ d = .none := by
    unfold f_check_number at hf
    split at hf
    · split at hf
      · rename_i h; exact ⟨_, _, _, rfl, h, (Option.some.inj hf).symm⟩
      · cases hf
    · cases hf
  refine ws_no (EB.to (eb_not (eb_val (ev_call hA g (el3 (by walk_at "v") (by walk_at "v") (by walk_at "v")) (by rfl)))) (by rw [hn]; rfl)) ?_
  exact ws_nil fun σ H s r => q .non H _ s .non rfl
theorem sc_wrong_in_net : FnScope ["value", "halls", "ways"] ["value"] (defScope s_wrong_in_net) := ⟨rfl, rfl, rfl, by decide +kernel, rfl, by decide +kernel, by decide +kernel⟩
theorem fn_wrong_in_net (T : Tx K mg) (g1 : Gnum P w K mg base) (g2 : Gpair P w K mg base) (g3 : Fn P w K mg base 3 "_are_ways" ["value", "halls"] (spE f_are_ways 2)) : Fn P w K mg base 4 "wrong_in_net" ["value"] (spE f_wrong_in_net 1) := by
  refine T.d_wrong_in_net.fnE sc_wrong_in_net fun f cdv A outer s H1 H0 Q ds d hA S hf hl q => ?_
  obtain ⟨d0, rfl⟩ := len1 hl rfl
  cases Option.some.inj hf
  refine ws_ifr (eb_not (eb_val (ev_call hA (g2.up (by decide)) (el1 (by walk_at "v")) (by rfl)))) (fun c => ws_ret ev_str (by
    intro v H d s r e3
    refine q v H d s r (e3.trans (congrArg PyData.str ?_))
    have c' : isPairD d0 = false := by simpa using c
    unfold wrongNet
    split
    · cases c'
    · rfl)) fun c => ?_
  obtain ⟨a, b, rfl⟩ := isPair_tup (by simpa using c)
  refine ws_two hA (i := 1) (j := 2) (Φ := fun x y => x = a ∧ y = b) (EP.mono (by walk_at "v" : EV _ _ _ _ (PyData.tuple [a, b])) fun d e => ⟨a, b, e, rfl, rfl⟩) S fun x y ⟨e1, e2⟩ => ?_
  subst e1 e2
  obtain ⟨tk, hm⟩ := T.c_most
  refine ws_ifr (eb_not (eb_val (ev_call hA (g1.up (by decide)) (el3 (by walk_at "v") ev_int (ev_val (v := .int 13) (fun _ => pe_glob rfl hm ⟨_, rfl⟩) fun H => .int 13)) (by rfl)))) (fun c => ws_ret ev_str (by
    intro v H d s r e3
    refine q v H d s r (e3.trans (congrArg PyData.str ?_))
    have c' : isNum x 1 13 = false := by simpa using c
    show _ = (if _ then _ else _)
    rw [c', if_neg Bool.false_ne_true])) fun c => ?_
  have c1 : isNum x 1 13 = true := by simpa using c
  obtain ⟨h, rfl, _⟩ := isNum_int c1
  refine ws_ifr (eb_not (eb_val (ev_call hA g3 (el2 (by walk_at "v") (by walk_at "v")) (by rfl)))) (fun c => ws_ret ev_str (by
    intro v H d s r e3
    refine q v H d s r (e3.trans (congrArg PyData.str ?_))
    have c' : areWays y h = false := by simpa using c
    show _ = (if _ then (if areWays y h = true then _ else _) else _)
    rw [c1, if_pos rfl, c', if_neg Bool.false_ne_true])) fun c => ws_ret ev_str (by
    intro v H d s r e3
    refine q v H d s r (e3.trans (congrArg PyData.str ?_))
    have c' : areWays y h = true := by simpa using c
    show _ = (if _ then (if areWays y h = true then _ else _) else _)
    rw [c1, if_pos rfl, c', if_pos rfl])
/-! ### webs, as data -/
/-- a web: halls from 2 to 13, steps rising from 1 to one less -/
def WebOk (h : Int) (st : List Int) : Prop := (2 ≤ h ∧ h ≤ 13) ∧ (∀ x ∈ st, 1 ≤ x ∧ x ≤ h - 1) ∧ st.Pairwise (· < ·)
def web (h : Int) (st : List Int) : PyData := .tuple [.int h, .tuple (st.map .int)]
theorem asc_pw : ∀ {st : List Int}, st.Pairwise (· < ·) → ascD (st.map .int) = true
  | [], _ => rfl
  | [_], _ => rfl
  | a :: b :: l, h => by
    obtain ⟨h1, h2⟩ := List.pairwise_cons.mp h
    have ih := asc_pw h2
    unfold ascD at ih ⊢
    show ((PyData.int a, PyData.int b) :: ((b :: l).map PyData.int).zip (((b :: l).map PyData.int).drop 1)).all _ = true
    rw [List.all_cons, ih, Bool.and_true]
    exact decide_eq_true (h1 b List.mem_cons_self)
theorem webOk_wrong {h : Int} {st : List Int} (W : WebOk h st) : wrongWeb (web h st) = "" := by
  obtain ⟨⟨h1, h2⟩, h3, h4⟩ := W
  have e1 : isNum (.int h) 2 13 = true := by simp [isNum, h1, h2]
  have e2 : areSteps (.tuple (st.map .int)) h = true := by
    show ((st.map PyData.int).all _ && _) = true
    rw [asc_pw h4, Bool.and_true, List.all_map]
    refine List.all_eq_true.mpr fun x hx => ?_
    have := h3 x hx
    show isNum (.int x) 1 (h - 1) = true
    simp [isNum, this.1, this.2]
  show (if _ then (if _ then _ else _) else _) = _
  rw [e1, if_pos rfl, show areSteps (.tuple (st.map PyData.int)) (intOf (.int h)) = true from e2, if_pos rfl]
def multSt (h : Int) (st : List Int) (f : Int) : List Int := isort leI (st.map fun s => s * f % h)
def f_multiplied : List PyData → Option PyData
  | [.tuple [.int h, .tuple xs], .int f] => if xs.all isIntD && decide (0 < h) && decide (-1000 ≤ f) && decide (f ≤ 1000) then some (web h (multSt h (xs.map intOf) f)) else none
  | _ => none
theorem sc_multiplied : FnScope ["web", "factor", "halls", "steps", "step"] ["web", "factor"] (defScope s_multiplied) := ⟨rfl, rfl, rfl, by decide +kernel, rfl, by decide +kernel, by decide +kernel⟩
theorem fn_multiplied (T : Tx K mg) : Fn P w K mg base 1 "_multiplied" ["web", "factor"] (spE f_multiplied 2) := by
  refine T.d_multiplied.fnE sc_multiplied fun f cdv A outer s H1 H0 Q ds d hA S hf hl q => ?_
  obtain ⟨h, xs, fa, rfl, hx, h0, b1, b2, rfl⟩ : ∃ h xs fa, ds = [.tuple [.int h, .tuple xs], .int fa] ∧ xs.all isIntD = true ∧ 0 < h ∧ -1000 ≤ fa ∧ fa ≤ 1000 ∧ d = web h (multSt h (xs.map intOf) fa) := by
    unfold f_multiplied at hf
    split at hf
    · split at hf
      · rename_i c
        simp only [Bool.and_eq_true, decide_eq_true_eq] at c
        exact ⟨_, _, _, rfl, c.1.1.1, c.1.1.2, c.1.2, c.2, (Option.some.inj hf).symm⟩
      · cases hf
    · cases hf
  obtain ⟨ns, rfl⟩ : ∃ ns : List Int, xs = ns.map .int := ⟨_, map_intOf hx⟩
  have e0 : (ns.map PyData.int).map intOf = ns := by rw [List.map_map]; exact List.map_id _
  refine ws_two hA (i := 2) (j := 3) (Φ := fun x y => x = .int h ∧ y = .tuple (ns.map .int)) (EP.mono (by walk_at "v" : EV _ _ _ _ (PyData.tuple [.int h, .tuple (ns.map .int)])) fun d e => ⟨_, _, e, rfl, rfl⟩) S fun x y ⟨e1, e2⟩ => ?_
  subst e1 e2
  have e1 : (ns.map PyData.int).map (fun x => PyData.int (intOf x * fa % h)) = (ns.map fun s => s * fa % h).map .int := by rw [List.map_map, List.map_map]; rfl
  refine ws_ret (EV.to (ev_tup (el2 (by walk_at "v") (ev_tupleOf hA T.b_tuple (ev_sortedI hA T.b_sorted (EV.to (ev_lcMap hA S (i := 4) (ei_tup hA (by walk_at "v")) (fun x => .int (intOf x * fa % h)) fun x hx => ?_) (congrArg PyData.list e1)))))) ?_) q
  · obtain ⟨n, _, rfl⟩ := List.mem_map.mp hx
    exact ev_mod (ev_mul (by walk_at "v") (by walk_at "v") (.inr ⟨by omega, by omega⟩)) (by walk_at "v") h0
  · rw [e0]; rfl
def facs (h : Int) : List Int := ((List.range (h - 1).toNat).map fun (i : Nat) => (1 : Int) + i).filter fun f => decide (((Nat.gcd f.natAbs h.natAbs : Nat) : Int) = 1)
def f_factors : List PyData → Option PyData
  | [.int h] => if decide (2 ≤ h) && decide (h ≤ 13) then some (.tuple ((facs h).map .int)) else none
  | _ => none
theorem sc_factors : FnScope ["halls", "number"] ["halls"] (defScope s_factors) := ⟨rfl, rfl, rfl, by decide +kernel, rfl, by decide +kernel, by decide +kernel⟩
theorem fn_factors (T : Tx K mg) (g : Fn P w K mg base 2 "check_number" ["value", "low", "high"] (spE f_check_number 3)) : Fn P w K mg base 3 "factors" ["halls"] (spE f_factors 1) := by
  refine T.d_factors.fnE sc_factors fun f cdv A outer s H1 H0 Q ds d hA S hf hl q => ?_
  obtain ⟨h, rfl, h2, h13, rfl⟩ : ∃ h, ds = [.int h] ∧ 2 ≤ h ∧ h ≤ 13 ∧ d = .tuple ((facs h).map .int) := by
    unfold f_factors at hf
    split at hf
    · split at hf
      · rename_i c
        simp only [Bool.and_eq_true, decide_eq_true_eq] at c
        exact ⟨_, rfl, c.1, c.2, (Option.some.inj hf).symm⟩
      · cases hf
    · cases hf
  obtain ⟨tk, hm⟩ := T.c_most
  refine ws_expr (ev_call hA g (el3 (by walk_at "v") ev_int (ev_val (v := .int 13) (fun _ => pe_glob rfl hm ⟨_, rfl⟩) fun H => .int 13)) (d := .none) (by show (if isNum (.int h) 2 13 = true then _ else _) = _; rw [if_pos (by simp [isNum, h2, h13])])) ?_
  have e1 : ((rgD 1 (h - 1).toNat).filter (fun d => decide (((Nat.gcd (intOf d).natAbs h.natAbs : Nat) : Int) = 1))).map (fun d => d) = (facs h).map PyData.int := by
    unfold rgD facs
    rw [List.map_id', List.filter_map, List.filter_map, List.map_map] <;> rfl
  refine ws_ret (ev_tupleOf hA T.b_tuple (EV.to (ev_lcIf hA S (i := 1) (ei_rng2 hA T.b_range ev_int (by walk_at "v") ⟨by decide, by decide, by omega, by omega⟩) (fun d => decide (((Nat.gcd (intOf d).natAbs h.natAbs : Nat) : Int) = 1)) (fun d => d) fun x hx => ?_) (congrArg PyData.list e1))) q
  obtain ⟨n, _, rfl⟩ := List.mem_map.mp hx
  exact ⟨eb_eqI (ev_gcd (at_blk hA) T.b_gcd (by walk_at "v") (by walk_at "v")) ev_int, fun _ => by walk_at "v"⟩
end
end SK


set_option Elab.async false
set_option linter.all false
set_option maxRecDepth 100000
set_option maxHeartbeats 1000000
namespace SK
open PySem SW
open L2 hiding Same
local macro_rules | `(tactic| walk_at "v") => `(tactic| first | exact ev_var (fun _ => pv 0) rfl | exact ev_var (fun _ => pv 1) rfl | exact ev_var (fun _ => pv 2) rfl | exact ev_var (fun _ => pv 3) rfl | exact ev_var (fun _ => pv 4) rfl | exact ev_var (fun _ => pv 5) rfl | exact ev_var (fun _ => pv 6) rfl)
section
variable {P : Program} {w : World} {K : PySem.W.Frag} {mg : Str → Option Value} {base : Heap}
abbrev Gchk (P : Program) (w : World) (K : PySem.W.Frag) (mg : Str → Option Value) (base : Heap) : Prop := Fn P w K mg base 4 "check_web" ["value"] (spE f_check_web 1)
abbrev Gmul (P : Program) (w : World) (K : PySem.W.Frag) (mg : Str → Option Value) (base : Heap) : Prop := Fn P w K mg base 1 "_multiplied" ["web", "factor"] (spE f_multiplied 2)
def f_is_web : List PyData → Option PyData
  | [d] => some (.bool (decide (wrongWeb d = "")))
  | _ => none
theorem sc_is_web : FnScope ["value"] ["value"] (defScope s_is_web) := ⟨rfl, rfl, rfl, by decide +kernel, rfl, by decide +kernel, by decide +kernel⟩
theorem fn_is_web (T : Tx K mg) (g : Fn P w K mg base 3 "wrong_in_web" ["value"] (spE f_wrong_in_web 1)) : Fn P w K mg base 4 "is_web" ["value"] (spE f_is_web 1) := by
  refine T.d_is_web.fnE sc_is_web fun f cdv A outer s H1 H0 Q ds d hA S hf hl q => ?_
  obtain ⟨d0, rfl⟩ := len1 hl rfl
  cases Option.some.inj hf
  exact ws_ret (ev_eqS (ev_call hA g (el1 (by walk_at "v")) (by rfl)) ev_str) q
def f_is_net : List PyData → Option PyData
  | [d] => some (.bool (decide (wrongNet d = "")))
  | _ => none
theorem sc_is_net : FnScope ["value"] ["value"] (defScope s_is_net) := ⟨rfl, rfl, rfl, by decide +kernel, rfl, by decide +kernel, by decide +kernel⟩
theorem fn_is_net (T : Tx K mg) (g : Fn P w K mg base 4 "wrong_in_net" ["value"] (spE f_wrong_in_net 1)) : Fn P w K mg base 5 "is_net" ["value"] (spE f_is_net 1) := by
  refine T.d_is_net.fnE sc_is_net fun f cdv A outer s H1 H0 Q ds d hA S hf hl q => ?_
  obtain ⟨d0, rfl⟩ := len1 hl rfl
  cases Option.some.inj hf
  exact ws_ret (ev_eqS (ev_call hA g (el1 (by walk_at "v")) (by rfl)) ev_str) q
/-! #### a web handed in -/
theorem isInt_map (st : List Int) : (st.map PyData.int).all isIntD = true := by rw [List.all_map]; exact List.all_eq_true.mpr fun _ _ => rfl
theorem intOf_map (st : List Int) : (st.map PyData.int).map intOf = st := by rw [List.map_map]; exact List.map_id _
theorem f_mult_web {h : Int} {st : List Int} {f : Int} (h0 : 0 < h) (h1 : -1000 ≤ f) (h2 : f ≤ 1000) : f_multiplied [web h st, .int f] = some (web h (multSt h st f)) := by
  show (if _ then some (web h (multSt h ((st.map PyData.int).map intOf) f)) else none) = _
  rw [isInt_map, intOf_map, if_pos (by simp [h0, h1, h2])]
theorem f_chk_web {h : Int} {st : List Int} (W : WebOk h st) : f_check_web [web h st] = some .none := by
  show (if _ then _ else _) = _
  rw [if_pos (webOk_wrong W)]
/-- a promise for a web: F of its halls and steps -/
def spW (F : Int → List Int → PyData) : Sp := spF (fun ds => ∃ h st, WebOk h st ∧ ds = [web h st]) (fun ds d => ∃ h st, ds = [web h st] ∧ d = F h st) 1
theorem web_inj {h h' : Int} {st st' : List Int} (e : web h st = web h' st') : h = h' ∧ st = st' := by
  unfold web at e
  injection e with e
  injection e with e1 e2
  injection e1 with e1
  injection e2 with e2 _
  injection e2 with e2
  refine ⟨e1, ?_⟩
  rw [← intOf_map st, e2, intOf_map]
theorem Df.fnW {x : Str} {st : Stmt} {N : List Str} {F : Int → List Int → PyData} {a : Str} {k : Nat} (D : Df K mg x st [a]) (S : FnScope N [a] (defScope st))
    (h : ∀ (f : Addr) (cdv : Value) (A : Around) (outer : List Env) (s : Shared) (H1 H0 : Hp) (Q : VK) (hh : Int) (ss : List Int), (∀ i, At (bdF P w K mg base N x (defScope st) f cdv A outer s H1 i) P w K mg base k) → Sc (bdF P w K mg base N x (defScope st) f cdv A outer s H1) N (defScope st) → WebOk hh ss → (∀ v H' d', Same H0 H' → Rp H' v d' → d' = F hh ss → Q v H') →
      WS (bdF P w K mg base N x (defScope st) f cdv A outer s H1) H0 (some (SD.dat (web hh ss)) :: List.replicate (N.length - 1) none) (defBody st) { nx := fun _ H' => Q .non H', rt := Q }) : Fn P w K mg base (k + 1) x [a] (spW F) := by
  refine D.fn S (fun vs H Q E h => h.1) (fun vs H Q E h => h) fun f cdv A outer s H1 H vs Q hA hs => ?_
  obtain ⟨hl, ds, ra, ⟨hh, ss, W, rfl⟩, q⟩ := hs
  have r := ra.start (N.length - vs.length)
  refine (h f cdv A outer s H1 H Q hh ss hA ⟨S.nd, fun _ => rfl, fun _ => rfl⟩ W fun v H' d' s' rv e => q v H' d' s' rv ⟨hh, ss, rfl, e⟩) _ H (Same.refl H) ?_
  have e1 : L2.start N vs = vs.map some ++ List.replicate (N.length - vs.length) none := rfl
  rw [e1]
  rw [hl] at r ⊢
  exact r
theorem ev_callW {I : Type} {X : I → Cx} {H0 : Hp} {ρ : Env1} {e : Expr} {F : Int → List Int → PyData} {hh : Int} {ss : List Int} {k : Nat} {x a : Str} {p pos : Pos} (hA : ∀ i, At (X i) P w K mg base k) (hf : Fn P w K mg base k x [a] (spW F)) (W : WebOk hh ss) (he : EV X H0 ρ e (web hh ss))
    (hg : ∀ i, Gl (X i) x := by intro _; rfl) (hdb : (x == ("__debug__" : Str)) = false := by decide) (hs : ∀ i, starEach [e] (X i).env = (false, eval e (X i).env) :: starEach [] (X i).env := by intro _; rfl) (hpl : ∀ i, (backTo pos (starEach [] (X i).env)).any (·.1) = false := by intro _; rfl) :
    EV X H0 ρ (.Call (.Name x p) [e] [] pos) (F hh ss) :=
  ep_call hA hf (el1 he hs) (fun ds e1 => by
    subst e1
    exact ⟨rfl, ⟨hh, ss, W, rfl⟩, fun d ⟨h', s', e2, e3⟩ => by
      obtain ⟨rfl, rfl⟩ := web_inj (List.head_eq_of_cons_eq e2)
      exact e3⟩) hg hdb hs hpl
def FT (h : Int) (st : List Int) : PyData := web h (multSt h st (h - 1))
theorem sc_turned : FnScope ["web"] ["web"] (defScope s_turned) := ⟨rfl, rfl, rfl, by decide +kernel, rfl, by decide +kernel, by decide +kernel⟩
theorem at0 {h : PyData} {t : PyData} : atI [h, t] 0 = some h := rfl
theorem fn_turned (T : Tx K mg) (g1 : Gchk P w K mg base) (g2 : Gmul P w K mg base) : Fn P w K mg base 5 "turned" ["web"] (spW FT) := by
  refine Df.fnW T.d_turned sc_turned fun f cdv A outer s H1 H0 Q hh ss hA S W q => ?_
  refine ws_expr (ev_call hA g1 (el1 (by walk_at "v")) (f_chk_web W)) ?_
  refine ws_ret (ev_call hA (g2.up (by decide)) (el2 (d1 := web hh ss) (by walk_at "v") (ev_sub (ev_ixT hA (ds := [.int hh, .tuple (ss.map .int)]) (by walk_at "v") ev_int rfl) ev_int)) (f_mult_web (by have := W.1; omega) (by have := W.1; omega) (by have := W.1; omega))) q
def F2 (h : Int) (st : List Int) : PyData := .bool (decide (multSt h st (h - 1) = st))
theorem sc_is_two_way : FnScope ["web"] ["web"] (defScope s_is_two_way) := ⟨rfl, rfl, rfl, by decide +kernel, rfl, by decide +kernel, by decide +kernel⟩
/-! #### the shape of a web; equality of webs -/
theorem canLay_ints : ∀ st : List Int, PyData.canLayAll0 (st.map .int) = true
  | [] => rfl
  | i :: st => by show (true && PyData.canLayAll0 (st.map .int)) = true; rw [canLay_ints st]; rfl
theorem depth_ints : ∀ st : List Int, PyData.depthAll (st.map .int) ≤ 1
  | [] => by simp [PyData.depthAll]
  | i :: st => by
    have := depth_ints st
    simp only [List.map_cons, PyData.depthAll, PyData.depth]
    omega
theorem shp_web (h : Int) (st : List Int) : Shp (web h st) := by
  have e1 : (web h st).canLay0 = true := by
    show (true && (PyData.canLayAll0 (st.map .int) && true)) = true
    rw [canLay_ints st]; rfl
  have e2 : (web h st).depth ≤ 64 := by
    have := depth_ints st
    simp only [web, PyData.depth, PyData.depthAll]
    omega
  show (_ && _) = true
  rw [e1, decide_eq_true e2]; rfl
theorem eqv_ints : ∀ st ss : List Int, PyData.eqvAll (st.map .int) (ss.map .int) = decide (st = ss)
  | [], [] => rfl
  | [], _ :: _ => rfl
  | _ :: _, [] => rfl
  | a :: st, b :: ss => by
    show ((a == b) && PyData.eqvAll (st.map .int) (ss.map .int)) = _
    rw [eqv_ints st ss]
    by_cases e : a = b
    · subst e; simp
    · simp [e]
theorem eqv_web (h h' : Int) (st ss : List Int) : PyData.eqv (web h st) (web h' ss) = decide (h = h' ∧ st = ss) := by
  show ((h == h') && (PyData.eqvAll (st.map .int) (ss.map .int) && true)) = _
  rw [eqv_ints, Bool.and_true, Bool.beq_eq_decide_eq]
  by_cases e : h = h'
  · subst e; simp
  · simp [e]
theorem fn_is_two_way (T : Tx K mg) (g : Fn P w K mg base 5 "turned" ["web"] (spW FT)) : Fn P w K mg base 6 "is_two_way" ["web"] (spW F2) := by
  refine Df.fnW T.d_is_two_way sc_is_two_way fun f cdv A outer s H1 H0 Q hh ss hA S W q => ?_
  refine ws_ret (EV.to (ev_eq hA (ev_callW hA g W (by walk_at "v")) (ev_var (d := web hh ss) (fun _ => pv 0) rfl) (shp_web _ _) (shp_web _ _)) ?_) q
  rw [show FT hh ss = web hh (multSt hh ss (hh - 1)) from rfl, eqv_web]
  show _ = PyData.bool _
  simp
def wayL (h : Int) (st : List Int) : List (Int × Int) := isort leP (((List.range h.toNat).map fun (i : Nat) => (0 : Int) + i).flatMap fun a => st.map fun s => (a, (a + s) % h))
def FWays (h : Int) (st : List Int) : PyData := .tuple ((wayL h st).map pairI)
theorem sc_ways : FnScope ["web", "halls", "steps", "hall", "step"] ["web"] (defScope s_ways) := ⟨rfl, rfl, rfl, by decide +kernel, rfl, by decide +kernel, by decide +kernel⟩
theorem len_asc : ∀ {l : List Int} {a b : Int}, l.Pairwise (· < ·) → (∀ x ∈ l, a ≤ x ∧ x ≤ b) → (l.length : Int) ≤ max 0 (b + 1 - a)
  | [], a, b, _, _ => by simp; omega
  | x :: l, a, b, h, hb => by
    obtain ⟨h1, h2⟩ := List.pairwise_cons.mp h
    have hx := hb x List.mem_cons_self
    have ih := len_asc (a := x + 1) (b := b) h2 fun y hy => ⟨h1 y hy, (hb y (List.mem_cons_of_mem _ hy)).2⟩
    rw [List.length_cons]
    omega
theorem web_len {h : Int} {st : List Int} (W : WebOk h st) : st.length ≤ 12 := by
  have q := len_asc W.2.2 W.2.1
  have := W.1
  omega
theorem fn_ways (T : Tx K mg) (g1 : Gchk P w K mg base) : Fn P w K mg base 5 "ways" ["web"] (spW FWays) := by
  refine Df.fnW T.d_ways sc_ways fun f cdv A outer s H1 H0 Q hh ss hA S W q => ?_
  have hw := W.1
  refine ws_expr (ev_call hA g1 (el1 (by walk_at "v")) (f_chk_web W)) ?_
  refine ws_two hA (i := 1) (j := 2) (Φ := fun x y => x = .int hh ∧ y = .tuple (ss.map .int)) (EP.mono (by walk_at "v" : EV _ _ _ _ (PyData.tuple [.int hh, .tuple (ss.map .int)])) fun d e => ⟨_, _, e, rfl, rfl⟩) S fun x y ⟨e1, e2⟩ => ?_
  subst e1 e2
  have e3 : ((rgD 0 hh.toNat).flatMap fun d => (ss.map PyData.int).map fun d' => PyData.tuple [d, .int ((intOf d + intOf d') % hh)]) = (((List.range hh.toNat).map fun (i : Nat) => (0 : Int) + i).flatMap fun a => ss.map fun s => (a, (a + s) % hh)).map pairI := by
    unfold rgD
    rw [List.flatMap_map, List.flatMap_map, List.map_flatMap]
    congr 1
    funext i
    rw [List.map_map, List.map_map] <;> rfl
  refine ws_ret (ev_tupleOf hA T.b_tuple (ev_sortedP hA T.b_sorted (EV.to (ev_lc2 hA S (i := 3) (j := 4) (ei_rng1 hA T.b_range (by walk_at "v") ⟨by omega, by omega⟩) (fun _ => ss.map PyData.int) (fun d d' => .tuple [d, .int ((intOf d + intOf d') % hh)]) ?_ fun d hd => ⟨ei_tup (at_blk hA) (by walk_at "v"), fun d' hd' => ?_⟩) (congrArg PyData.list e3)))) q
  · have hl := web_len W
    have e4 : ((rgD 0 hh.toNat).flatMap fun d => (ss.map PyData.int).map fun d' => PyData.tuple [d, .int ((intOf d + intOf d') % hh)]).length ≤ 169 := by
      rw [List.length_flatMap]
      simp only [List.length_map]
      have : ∀ l : List PyData, (l.map fun _ => ss.length).sum = l.length * ss.length := fun l => by
        induction l with
        | nil => simp
        | cons a l ih => rw [List.map_cons, List.sum_cons, ih, List.length_cons, Nat.succ_mul, Nat.add_comm]
      rw [this, rgD_len]
      have h1 : hh.toNat ≤ 13 := by omega
      exact Nat.le_trans (Nat.mul_le_mul h1 hl) (by decide)
    exact Nat.le_of_lt (small1000 (by omega))
  · obtain ⟨a, _, rfl⟩ := List.mem_map.mp hd
    obtain ⟨b, _, rfl⟩ := List.mem_map.mp hd'
    exact ev_tup (el2 (by walk_at "v") (ev_mod (ev_add (by walk_at "v") (by walk_at "v")) (by walk_at "v") (by omega)))
def FNet (h : Int) (st : List Int) : PyData := .tuple [.int h, FWays h st]
theorem sc_net_of : FnScope ["web"] ["web"] (defScope s_net_of) := ⟨rfl, rfl, rfl, by decide +kernel, rfl, by decide +kernel, by decide +kernel⟩
theorem fn_net_of (T : Tx K mg) (g1 : Gchk P w K mg base) (g2 : Fn P w K mg base 5 "ways" ["web"] (spW FWays)) : Fn P w K mg base 6 "net_of" ["web"] (spW FNet) := by
  refine Df.fnW T.d_net_of sc_net_of fun f cdv A outer s H1 H0 Q hh ss hA S W q => ?_
  refine ws_expr (ev_call hA (g1.up (by decide)) (el1 (by walk_at "v")) (f_chk_web W)) ?_
  exact ws_ret (ev_tup (el2 (ev_ixT hA (ds := [.int hh, .tuple (ss.map .int)]) (by walk_at "v") ev_int rfl) (ev_callW hA g2 W (by walk_at "v")))) q
end
end SK


set_option Elab.async false
set_option linter.all false
set_option maxRecDepth 100000
set_option maxHeartbeats 2000000
namespace SK
open PySem SW
open L2 hiding Same
section
variable {P : Program} {w : World} {K : PySem.W.Frag} {mg : Str → Option Value} {base : Heap}
theorem sc_law_taken : FnScope ["row", "many", "found", "cell"] ["row", "many"] (defScope s_law_taken) := ⟨rfl, rfl, rfl, by decide +kernel, rfl, by decide +kernel, by decide +kernel⟩
theorem fn_law_taken (T : Tx K mg) : Fn P w K mg base 1 "_law_taken" ["row", "many"] (spTk K) := by
  refine T.d_law_taken.fn sc_law_taken (fun vs H Q E h => ?_) (fun vs H Q E h => h) fun f cdv A outer s H1 H vs Q hA hs => ?_
  · obtain ⟨r, m, rfl, _⟩ := h
    rfl
  obtain ⟨r, m, rfl, ⟨m1, m2⟩, ⟨a, hr, ns, hS, hl⟩, q⟩ := hs
  refine ub_open hr fun i sd c ⟨b1, b2, b3, b4⟩ => ?_
  have nd := sc_law_taken.nd
  have h0 : upd H r (.lst (rowV a i sd c)) r = some (.lst (rowV a i sd c)) := upd_same
  refine ⟨_, fun () => pss_cons (ps_if (pt_cmpR op_gt (pe_ix ix_list (pv 0) pe_int (fun _ _ => rfl)) pe_int (nomark _))
      (pss_cons (ps_set (i := 2) nd rfl (Or.inl rfl) (pe_op op_mod (pe_callTy call_int1 (by rfl) T.b_int (by decide +kernel) (pa_cons (pe_ix ix_list (pv 0) pe_int (fun _ _ => rfl)) pa_nil)) (pv 1)))
        (pss_cons (ps_asg (pe_op op_fdiv (pe_ix ix_list (pv 0) pe_int (fun _ _ => rfl)) (pv 1)) (pg_sub (pv 0) pe_int set_list)) (pss_one (ps_ret (pv 2))))) pss_nil)
    (pss_cons (ps_asg (pe_op op_add (pe_ix ix_list (pv 0) pe_int (fun _ _ => rfl)) pe_int) (pg_sub (pv 0) pe_int set_list))
    (pss_cons (ps_if (pt_cmpR op_gt (pe_ix ix_list (pv 0) pe_int (fun _ _ => rfl)) (pe_callB call_len_seq (by rfl) T.b_len PySem.boot_len (pa_cons (pe_ix ix_list (pv 0) pe_int (fun _ _ => rfl)) pa_nil)) (nomark _))
      (pss_cons (ps_asg (pe_op op_mod (pe_callTy call_int1 (by rfl) T.b_int (by decide +kernel) (pa_cons (pe_op op_add (pe_op op_mul (pe_ix ix_list (pv 0) pe_int (fun _ _ => rfl)) pe_int) pe_int) pa_nil)) pe_int) (pg_sub (pv 0) pe_int set_list))
        (pss_one (ps_ret (pe_op op_mod (pe_callTy call_int1 (by rfl) T.b_int (by decide +kernel) (pa_cons (pe_op op_fdiv (pe_ix ix_list (pv 0) pe_int (fun _ _ => rfl)) pe_int) pa_nil)) (pv 1))))) pss_nil)
    (pss_cons (ps_set (i := 3) nd rfl (Or.inl rfl) (pe_ix ix_list (pe_ix ix_list (pv 0) pe_int (fun _ _ => rfl)) (pe_op op_sub (pe_ix ix_list (pv 0) pe_int (fun _ _ => rfl)) pe_int) (fun _ _ => rfl)))
    (pss_cons (ps_asg (pe_op op_mod (pe_callTy call_int1 (by rfl) T.b_int (by decide +kernel) (pa_cons (pe_op op_add (pe_op op_add (pe_op op_mul (pe_ix ix_list (pv 0) pe_int (fun _ _ => rfl)) pe_int) (pv 3)) pe_int) pa_nil)) pe_int) (pg_sub (pv 0) pe_int set_list))
    (pss_cons (ps_if (pt_cmpR op_ge (pv 3) (pe_op op_pow pe_int pe_int) (nomark _)) (pss_one (ps_asg (pe_op op_fdiv (pv 3) (pv 1)) (pg_sub (pv 0) pe_int set_list))) pss_nil)
    (pss_one (ps_ret (pe_op op_mod (pe_callTy call_int1 (by rfl) T.b_int (by decide +kernel) (pa_cons (pv 3) pa_nil)) (pv 1)))))))))  , ?_⟩
  -- row[3] > 0
  refine ⟨_, rfl, r, _, 3, .int c, rfl, rfl, SqL.of h0, rfl, _, _, rfl, rfl, _, rfl, ?_⟩
  refine ite2 (fun hc => ?_) (fun hc => ?_)
  · have hc' : 0 < c := of_decide_eq_true hc
    refine ⟨_, rfl, r, _, 3, .int c, rfl, rfl, SqL.of h0, rfl, .inl ⟨_, rfl, _, rfl, _, _, rfl, rfl, by omega, ?_⟩⟩
    refine ⟨_, rfl, r, _, 3, .int c, rfl, rfl, SqL.of h0, rfl, _, rfl, _, _, rfl, rfl, ⟨by omega, by omega⟩, ?_⟩
    refine ⟨_, rfl, r, _, 3, 3, rfl, rfl, h0, rfl, _, rfl, i, sd, c / m, upd_same, ⟨b1, b2, b3, Int.ediv_nonneg (by omega) (by omega)⟩, ?_⟩
    exact q _ _ (Int.emod_nonneg _ (by omega)) (Int.emod_lt_of_pos _ (by omega)) (same_shut2 hr)
  · -- row[1] = row[1] + 1
    refine ⟨_, rfl, r, _, 1, .int i, rfl, rfl, SqL.of h0, rfl, _, _, rfl, rfl, _, rfl, r, _, 1, 1, rfl, rfl, h0, rfl, ?_⟩
    have e1 : upd (upd H r (.lst (rowV a i sd c))) r (.lst ((rowV a i sd c).set 1 (.int (i + 1)))) = upd H r (.lst (rowV a (i + 1) sd c)) := upd_upd
    rw [e1]
    have h1 : upd H r (.lst (rowV a (i + 1) sd c)) r = some (.lst (rowV a (i + 1) sd c)) := upd_same
    have hS1 : SqL K (upd H r (.lst (rowV a (i + 1) sd c))) a (ns.map V.int) := scr_upd hr hS
    refine ⟨_, rfl, r, _, 1, .int (i + 1), rfl, rfl, SqL.of h1, rfl, _, rfl, r, _, 0, .ref a, rfl, rfl, SqL.of h1, rfl, a, _, rfl, .inl hS1, _, _, rfl, rfl, _, rfl, ?_⟩
    rw [List.length_map]
    refine ite2 (fun hc => ?_) (fun hc => ?_)
    · refine ⟨_, rfl, r, _, 2, .int sd, rfl, rfl, SqL.of h1, rfl, sd, 48271, rfl, rfl, .inl ⟨by omega, by omega⟩, _, _, rfl, rfl, .inl ⟨_, rfl, _, _, rfl, rfl, (by decide : (0 : Int) < 2147483647), _, rfl, r, _, 2, 2, rfl, rfl, h1, rfl, ?_⟩⟩
      have e2 : upd (upd H r (.lst (rowV a (i + 1) sd c))) r (.lst ((rowV a (i + 1) sd c).set 2 (.int ((sd * 48271 + 11) % 2147483647)))) = upd H r (.lst (rowV a (i + 1) ((sd * 48271 + 11) % 2147483647) c)) := upd_upd
      rw [e2]
      have h2 : upd H r (.lst (rowV a (i + 1) ((sd * 48271 + 11) % 2147483647) c)) r = some (.lst (rowV a (i + 1) ((sd * 48271 + 11) % 2147483647) c)) := upd_same
      refine ⟨_, rfl, r, _, 2, .int ((sd * 48271 + 11) % 2147483647), rfl, rfl, SqL.of h2, rfl, _, _, rfl, rfl, ⟨by decide, by decide⟩, .inl ⟨_, rfl, _, rfl, _, m, rfl, rfl, by omega, ?_⟩⟩
      refine ⟨i + 1, _, c, upd_same, ⟨by omega, by omega, by omega, b4⟩, ?_⟩
      exact q _ _ (Int.emod_nonneg _ (by omega)) (Int.emod_lt_of_pos _ (by omega)) (same_shut hr)
    · have hi : ¬ ((ns.length : Int) < i + 1) := of_decide_eq_false (Bool.eq_false_iff.mpr hc)
      obtain ⟨n, hn⟩ : ∃ n, ns[i.toNat]? = some n := ⟨_, List.getElem?_eq_getElem (by omega)⟩
      have ha : atI (ns.map V.int) (i + 1 - 1) = some (.int n) := by
        have e3 : i + 1 - 1 = ((i.toNat : Nat) : Int) := by omega
        rw [e3]
        exact atI_nat (by rw [List.getElem?_map, hn] <;> rfl)
      refine ⟨_, rfl, r, _, 0, .ref a, rfl, rfl, SqL.of h1, rfl, _, rfl, r, _, 1, .int (i + 1), rfl, rfl, SqL.of h1, rfl, _, _, rfl, rfl, a, _, _, _, rfl, rfl, hS1, ha, ?_⟩
      refine ⟨_, rfl, r, _, 2, .int sd, rfl, rfl, SqL.of h1, rfl, sd, 48271, rfl, rfl, .inl ⟨by omega, by omega⟩, _, rfl, _, n, rfl, rfl, _, _, rfl, rfl, .inl ⟨_, rfl, _, _, rfl, rfl, (by decide : (0 : Int) < 2147483647), _, rfl, r, _, 2, 2, rfl, rfl, h1, rfl, ?_⟩⟩
      have e2 : upd (upd H r (.lst (rowV a (i + 1) sd c))) r (.lst ((rowV a (i + 1) sd c).set 2 (.int ((sd * 48271 + n + 11) % 2147483647)))) = upd H r (.lst (rowV a (i + 1) ((sd * 48271 + n + 11) % 2147483647) c)) := upd_upd
      rw [e2]
      have h2 : upd H r (.lst (rowV a (i + 1) ((sd * 48271 + n + 11) % 2147483647) c)) r = some (.lst (rowV a (i + 1) ((sd * 48271 + n + 11) % 2147483647) c)) := upd_same
      refine ⟨_, rfl, 10, 18, rfl, rfl, ⟨by decide, by decide, by decide⟩, n, _, rfl, rfl, _, rfl, ?_⟩
      refine ite2 (fun hg => ?_) (fun hg => ?_)
      · have hg' : (10 : Int) ^ (18 : Int).toNat ≤ n := of_decide_eq_true hg
        have hn0 : 0 ≤ n := Int.le_trans (by decide) hg'
        refine ⟨_, rfl, _, rfl, n, m, rfl, rfl, ⟨by omega, by omega⟩, _, rfl, r, _, 3, 3, rfl, rfl, h2, rfl, ?_⟩
        refine ⟨_, rfl, .inl ⟨_, rfl, _, rfl, n, m, rfl, rfl, by omega, ?_⟩⟩
        refine ⟨i + 1, (sd * 48271 + n + 11) % 2147483647, n / m, upd_same, ⟨by omega, by omega, by omega, Int.ediv_nonneg hn0 (by omega)⟩, ?_⟩
        exact q _ _ (Int.emod_nonneg _ (by omega)) (Int.emod_lt_of_pos _ (by omega)) (same_shut2 hr)
      · refine ⟨_, rfl, .inl ⟨_, rfl, _, rfl, n, m, rfl, rfl, by omega, ?_⟩⟩
        refine ⟨i + 1, (sd * 48271 + n + 11) % 2147483647, c, upd_same, ⟨by omega, by omega, by omega, b4⟩, ?_⟩
        exact q _ _ (Int.emod_nonneg _ (by omega)) (Int.emod_lt_of_pos _ (by omega)) (same_shut hr)
end
end SK


set_option Elab.async false
set_option linter.all false
set_option maxRecDepth 100000
set_option maxHeartbeats 1000000
namespace SK
open PySem SW
open L2 hiding Same
local macro_rules | `(tactic| walk_at "v") => `(tactic| first | exact ev_var (fun _ => pv 0) rfl | exact ev_var (fun _ => pv 1) rfl | exact ev_var (fun _ => pv 2) rfl | exact ev_var (fun _ => pv 3) rfl | exact ev_var (fun _ => pv 4) rfl | exact ev_var (fun _ => pv 5) rfl | exact ev_var (fun _ => pv 6) rfl)
section
variable {P : Program} {w : World} {K : PySem.W.Frag} {mg : Str → Option Value} {base : Heap}
/-! ### divisors -/
def irng (lo : Int) (n : Nat) : List Int := (List.range n).map fun (i : Nat) => lo + i
theorem rgD_irng (lo : Int) (n : Nat) : rgD lo n = (irng lo n).map .int := by unfold rgD irng; rw [List.map_map]; rfl
def dvs (a b : Int) : List Int := (irng 1 a.toNat).filter fun n => decide (a % n = 0) && decide (b % n = 0)
def f_law_divisor : List PyData → Option PyData
  | [.int a, .int b] => if decide (1 ≤ a) && decide (a ≤ 100) then some (.int (maxI (dvs a b))) else none
  | _ => none
theorem sc_law_divisor : FnScope ["one", "other", "number"] ["one", "other"] (defScope s_law_divisor) := ⟨rfl, rfl, rfl, by decide +kernel, rfl, by decide +kernel, by decide +kernel⟩
theorem irng_mem {lo x : Int} {n : Nat} (h : x ∈ irng lo n) : lo ≤ x ∧ x < lo + n := by
  obtain ⟨i, hi, rfl⟩ := List.mem_map.mp h
  have := List.mem_range.mp hi
  omega
theorem fn_law_divisor (T : Tx K mg) : Fn P w K mg base 1 "_law_divisor" ["one", "other"] (spE f_law_divisor 2) := by
  refine T.d_law_divisor.fnE sc_law_divisor fun f cdv A outer s H1 H0 Q ds d hA S hf hl q => ?_
  obtain ⟨a, b, rfl, h1, h2, rfl⟩ : ∃ a b, ds = [.int a, .int b] ∧ 1 ≤ a ∧ a ≤ 100 ∧ d = .int (maxI (dvs a b)) := by
    unfold f_law_divisor at hf
    split at hf
    · split at hf
      · rename_i c
        simp only [Bool.and_eq_true, decide_eq_true_eq] at c
        exact ⟨_, _, rfl, c.1, c.2, (Option.some.inj hf).symm⟩
      · cases hf
    · cases hf
  have e1 : ((rgD 1 (a + 1 - 1).toNat).filter (fun d => decide (a % intOf d = 0) && decide (b % intOf d = 0))).map (fun d => d) = (dvs a b).map PyData.int := by
    rw [List.map_id', rgD_irng, List.filter_map]
    have : (a + 1 - 1).toNat = a.toNat := by omega
    rw [this] <;> rfl
  refine ws_ret (ev_max hA T.b_max (EV.to (ev_lcIf hA S (i := 2) (ei_rng2 hA T.b_range ev_int (ev_add (by walk_at "v") ev_int) ⟨by decide, by decide, by omega, by omega⟩) (fun d => decide (a % intOf d = 0) && decide (b % intOf d = 0)) (fun d => d) fun x hx => ?_) (congrArg PyData.list e1)) ?_) q
  · rw [rgD_irng] at hx
    obtain ⟨n, hn, rfl⟩ := List.mem_map.mp hx
    have hb := irng_mem hn
    exact ⟨et_w (eb_and (eb_eqI (ev_mod (by walk_at "v") (by walk_at "v") (by show 0 < n; omega)) ev_int) fun _ => ew_and1 (eb_eqI (ev_mod (by walk_at "v") (by walk_at "v") (by show 0 < n; omega)) ev_int)), fun _ => by walk_at "v"⟩
  · have : (1 : Int) ∈ dvs a b := List.mem_filter.mpr ⟨List.mem_map.mpr ⟨0, List.mem_range.mpr (by omega), rfl⟩, by simp⟩
    exact List.length_pos_of_mem this
def lfacs (h : Int) : List Int := (irng 1 (h - 1).toNat).filter fun n => decide (maxI (dvs n h) = 1)
def f_law_factors : List PyData → Option PyData
  | [.int h] => if decide (2 ≤ h) && decide (h ≤ 100) then some (.list ((lfacs h).map .int)) else none
  | _ => none
/-- both ways to the factors -/
theorem lfacs_facs {h : Int} (h1 : 2 ≤ h) (h2 : h ≤ 13) : lfacs h = facs h := by
  have : h = 2 ∨ h = 3 ∨ h = 4 ∨ h = 5 ∨ h = 6 ∨ h = 7 ∨ h = 8 ∨ h = 9 ∨ h = 10 ∨ h = 11 ∨ h = 12 ∨ h = 13 := by omega
  rcases this with e | e | e | e | e | e | e | e | e | e | e | e <;> subst e <;> decide +kernel
def f_law_times : List PyData → Option PyData
  | [.tuple [.int h, .tuple xs], .int f] => if xs.all isIntD && decide (0 < h) && decide (-1000 ≤ f) && decide (f ≤ 1000) then some (web h (multSt h (xs.map intOf) f)) else none
  | _ => none
/-! ### ways, by a loop -/
def FLW (h : Int) (st : List Int) : PyData := .list ((wayL h st).map pairI)
def wayR (h : Int) (st : List Int) (n : Nat) : List (Int × Int) := (irng 0 n).flatMap fun a => st.map fun s => (a, (a + s) % h)
theorem wayR_succ (h : Int) (st : List Int) (n : Nat) : wayR h st (n + 1) = wayR h st n ++ st.map fun s => ((0 : Int) + n, ((0 : Int) + n + s) % h) := by
  unfold wayR irng
  rw [List.range_succ, List.map_append, List.flatMap_append]
  simp
theorem wayR_len {h : Int} {st : List Int} (hl : st.length ≤ 12) : ∀ n, (wayR h st n).length ≤ n * 12
  | 0 => Nat.zero_le _
  | n + 1 => by
    rw [wayR_succ, List.length_append, List.length_map]
    have := wayR_len (h := h) hl n
    omega
end
end SK


set_option Elab.async false
set_option linter.all false
set_option maxRecDepth 100000
set_option maxHeartbeats 1000000
namespace SK
open PySem SW
open L2 hiding Same
local macro_rules | `(tactic| walk_at "v") => `(tactic| first | exact ev_var (fun _ => pv 0) rfl | exact ev_var (fun _ => pv 1) rfl | exact ev_var (fun _ => pv 2) rfl | exact ev_var (fun _ => pv 3) rfl | exact ev_var (fun _ => pv 4) rfl | exact ev_var (fun _ => pv 5) rfl | exact ev_var (fun _ => pv 6) rfl)
section
variable {P : Program} {w : World} {K : PySem.W.Frag} {mg : Str → Option Value} {base : Heap}
abbrev Gtk (P : Program) (w : World) (K : PySem.W.Frag) (mg : Str → Option Value) (base : Heap) : Prop := Fn P w K mg base 1 "_law_taken" ["row", "many"] (spRow K preTk postTk 1)
/-- a def whose first argument is the row -/
theorem Df.fnRow {x : Str} {st : Stmt} {ps N : List Str} {pre : List PyData → Prop} {post : List PyData → PyData → Prop} {n k : Nat} (D : Df K mg x st ps) (S : FnScope N ps (defScope st)) (hn : ps.length = n + 1)
    (h : ∀ (f : Addr) (cdv : Value) (A : Around) (outer : List Env) (s : Shared) (H1 H0 : Hp) (Q : VK) (ds : List PyData) (r : Addr), (∀ i, At (bdF P w K mg base N x (defScope st) f cdv A outer s H1 i) P w K mg base k) → Sc (bdF P w K mg base N x (defScope st) f cdv A outer s H1) N (defScope st) → RowAt K H0 r → ds.length = n → pre ds → (∀ v H' d', Same H0 H' → Rp H' v d' → post ds d' → Q v H') →
      WS (bdF P w K mg base N x (defScope st) f cdv A outer s H1) H0 (some (SD.raw (.ref r)) :: ((ds.map fun d => some (SD.dat d)) ++ List.replicate (N.length - (n + 1)) none)) (defBody st) { nx := fun _ H' => Q .non H', rt := Q }) : Fn P w K mg base (k + 1) x ps (spRow K pre post n) := by
  refine D.fn S (fun vs H Q E h => ?_) (fun vs H Q E h => h) fun f cdv A outer s H1 H vs Q hA hs => ?_
  · obtain ⟨r, vs', ds, rfl, hl, _⟩ := h
    rw [List.length_cons, hl, hn]
  obtain ⟨r, vs', ds, rfl, hl, hr, ra, hp, q⟩ := hs
  refine (h f cdv A outer s H1 H Q ds r hA ⟨S.nd, fun _ => rfl, fun _ => rfl⟩ hr (by rw [← ra.length]; exact hl) hp q) _ H (Same.refl H) ?_
  have r2 := ra.start (N.length - (n + 1))
  have e1 : L2.start N (.ref r :: vs') = some (.ref r) :: (vs'.map some ++ List.replicate (N.length - (n + 1)) none) := by
    show (some (V.ref r) :: vs'.map some) ++ List.replicate (N.length - (vs'.length + 1)) none = _
    rw [hl] <;> rfl
  rw [e1]
  refine ⟨by rw [List.length_cons, List.length_cons, r2.len], fun i => ?_⟩
  cases i with
  | zero => rfl
  | succ i => simpa using r2.at_ i
/-! ### _law_pick -/
theorem sc_law_pick : FnScope ["row", "things"] ["row", "things"] (defScope s_law_pick) := ⟨rfl, rfl, rfl, by decide +kernel, rfl, by decide +kernel, by decide +kernel⟩
abbrev prePk : List PyData → Prop := fun ds => ∃ l, ds = [.list l] ∧ 1 ≤ l.length ∧ l.length ≤ 1000
abbrev postPk : List PyData → PyData → Prop := fun ds d => ∃ l, ds = [.list l] ∧ d ∈ l
theorem fn_law_pick (T : Tx K mg) (g : Gtk P w K mg base) : Fn P w K mg base 2 "_law_pick" ["row", "things"] (spRow K prePk postPk 1) := by
  refine Df.fnRow T.d_law_pick sc_law_pick rfl fun f cdv A outer s H1 H0 Q ds r hA S hr hl hp q => ?_
  obtain ⟨l, rfl, l1, l2⟩ := hp
  exact ws_ret (ep_ixL hA (by walk_at "v") (ep_take hA g hr (fun _ => pv 0) rfl (ev_lenL hA T.b_len (by walk_at "v")) ⟨by omega, by omega⟩)) fun v H d s' rv f => q v H d s' rv ⟨l, rfl, f⟩
/-! ### _law_web -/
theorem sc_law_web : FnScope ["row", "most", "halls", "steps", "step"] ["row", "most"] (defScope s_law_web) := ⟨rfl, rfl, rfl, by decide +kernel, rfl, by decide +kernel, by decide +kernel⟩
abbrev preWb : List PyData → Prop := fun ds => ∃ m : Int, ds = [.int m] ∧ 2 ≤ m ∧ m ≤ 13
abbrev postWb : List PyData → PyData → Prop := fun ds d => ∃ (m h : Int) (st : List Int), ds = [.int m] ∧ d = web h st ∧ WebOk h st ∧ h ≤ m
theorem sub_ints {l : List PyData} {ns : List Int} (h : l.Sublist (ns.map .int)) : ∃ ms : List Int, l = ms.map .int ∧ ms.Sublist ns := by
  obtain ⟨ms, hm, rfl⟩ := List.sublist_map_iff.mp h
  exact ⟨ms, rfl, hm⟩
theorem irng_pw (lo : Int) (n : Nat) : (irng lo n).Pairwise (· < ·) := by
  unfold irng
  rw [List.pairwise_map]
  exact List.pairwise_lt_range.imp fun h => by omega
theorem web_sub {h : Int} {ms : List Int} (h1 : 2 ≤ h) (h2 : h ≤ 13) (hs : ms.Sublist (irng 1 (h - 1).toNat)) : WebOk h ms :=
  ⟨⟨h1, h2⟩, fun x hx => by have := irng_mem (hs.mem hx); omega, (irng_pw 1 _).sublist hs⟩
theorem fn_law_web (T : Tx K mg) (g : Gtk P w K mg base) : Fn P w K mg base 2 "_law_web" ["row", "most"] (spRow K preWb postWb 1) := by
  refine Df.fnRow T.d_law_web sc_law_web rfl fun f cdv A outer s H1 H0 Q ds r hA S hr hl hp q => ?_
  obtain ⟨m, rfl, m1, m2⟩ := hp
  refine ws_set (i := 2) (ep_add ev_int.int (ep_take hA g hr (fun _ => pv 0) rfl (ev_sub (by walk_at "v") ev_int) ⟨by omega, by omega⟩)) S fun d e => ?_
  obtain ⟨n1, n2, rfl, rfl, k1, k2⟩ := e
  obtain ⟨h, rfl⟩ : ∃ h, h = 2 + n2 := ⟨_, rfl⟩
  have hb : 2 ≤ 2 + n2 ∧ 2 + n2 ≤ m := by omega
  generalize 2 + n2 = h at hb ⊢
  refine ws_set (i := 3) (ep_lcSome hA S (i := 4) (f := fun d => d) (ei_rng2 hA T.b_range ev_int (by walk_at "v") ⟨by decide, by decide, by omega, by omega⟩) fun d hd => ?_) S fun d e => ?_
  · rw [rgD_irng] at hd
    obtain ⟨n, hn, rfl⟩ := List.mem_map.mp hd
    exact ⟨et_eqAny (ep_take (at_blk hA) g hr (fun _ => pv 0) rfl ev_int ⟨by decide, by decide⟩) ev_int.int, by walk_at "v"⟩
  obtain ⟨l, rfl, hl'⟩ := e
  rw [List.map_id', rgD_irng] at hl'
  obtain ⟨ms, rfl, hms⟩ := sub_ints hl'
  have W := web_sub (h := h) (by omega) (by omega) hms
  refine ws_if (et_eqAny (ep_take hA g hr (fun _ => pv 0) rfl ev_int ⟨by decide, by decide⟩) ev_int.int) (fun _ => ?_) fun _ => ?_
  · have e2 : ((rgD 1 (h - 1).toNat).filter fun d => decide (intOf d ∈ ms) || decide (h - intOf d ∈ ms)).map (fun d => d) = ((irng 1 (h - 1).toNat).filter fun x => decide (x ∈ ms) || decide (h - x ∈ ms)).map PyData.int := by
      rw [List.map_id', rgD_irng, List.filter_map] <;> rfl
    refine ws_set (i := 3) (EV.to (ev_lcIf hA S (i := 4) (ei_rng2 hA T.b_range ev_int (by walk_at "v") ⟨by decide, by decide, by omega, by omega⟩) (fun d => decide (intOf d ∈ ms) || decide (h - intOf d ∈ ms)) (fun d => d) fun x hx => ?_) (congrArg PyData.list e2)) S fun d e => ?_
    · rw [rgD_irng] at hx
      obtain ⟨n, hn, rfl⟩ := List.mem_map.mp hx
      exact ⟨et_w (eb_or (eb_inI (at_blk hA) (by walk_at "v") (by walk_at "v")) fun _ => ew_or1 (eb_inI (at_blk hA) (ev_sub (by walk_at "v") (by walk_at "v")) (by walk_at "v"))), fun _ => by walk_at "v"⟩
    subst e
    have W2 := web_sub (h := h) (by omega) (by omega) (List.filter_sublist (l := irng 1 (h - 1).toNat) (p := fun x => decide (x ∈ ms) || decide (h - x ∈ ms)))
    refine ws_nil fun σ H s1 r1 => WS.run (ws_ret (ev_tup (el2 (by walk_at "v") (ev_tupleOf hA T.b_tuple (by walk_at "v")))) fun v H d s' rv f => ?_) σ H s1 r1
    exact q v H d s' rv ⟨m, h, _, rfl, f, W2, hb.2⟩
  · refine ws_nil fun σ H s1 r1 => WS.run (ws_ret (ev_tup (el2 (by walk_at "v") (ev_tupleOf hA T.b_tuple (by walk_at "v")))) fun v H d s' rv f => ?_) σ H s1 r1
    exact q v H d s' rv ⟨m, h, _, rfl, f, W, hb.2⟩
end
end SK


set_option Elab.async false
set_option linter.all false
set_option maxRecDepth 100000
set_option maxHeartbeats 1000000
namespace SK
open PySem SW
open L2 hiding Same
local macro_rules | `(tactic| walk_at "v") => `(tactic| first | exact ev_var (fun _ => pv 0) rfl | exact ev_var (fun _ => pv 1) rfl | exact ev_var (fun _ => pv 2) rfl | exact ev_var (fun _ => pv 3) rfl | exact ev_var (fun _ => pv 4) rfl | exact ev_var (fun _ => pv 5) rfl | exact ev_var (fun _ => pv 6) rfl)
section
variable {P : Program} {w : World} {K : PySem.W.Frag} {mg : Str → Option Value} {base : Heap}
def isLst : PyData → Bool
  | .list _ => true | _ => false
def isStrD : PyData → Bool
  | .str _ => true | _ => false
theorem kb4 : kitB "NoneType" "list" = some false ∧ kitB "bool" "list" = some false ∧ kitB "int" "list" = some false ∧ kitB "str" "list" = some false ∧ kitB "list" "list" = some true ∧ kitB "tuple" "list" = some false := by decide +kernel
theorem kb5 : kitB "NoneType" "str" = some false ∧ kitB "bool" "str" = some false ∧ kitB "int" "str" = some false ∧ kitB "str" "str" = some true ∧ kitB "list" "str" = some false ∧ kitB "tuple" "str" = some false := by decide +kernel
theorem kbE : kitB "dict" "list" = some false ∧ kitB "dict" "str" = some false := by decide +kernel
theorem kit_list (d : PyData) (h : noDict d = true) : kitB (tyN d) "list" = some (isLst d) := match d, h with
  | .none, _ => kb4.1 | .bool _, _ => kb4.2.1 | .int _, _ => kb4.2.2.1 | .str _, _ => kb4.2.2.2.1 | .list _, _ => kb4.2.2.2.2.1 | .tuple _, _ => kb4.2.2.2.2.2 | .dict _, _ => kbE.1
theorem kit_str (d : PyData) (h : noDict d = true) : kitB (tyN d) "str" = some (isStrD d) := match d, h with
  | .none, _ => kb5.1 | .bool _, _ => kb5.2.1 | .int _, _ => kb5.2.2.1 | .str _, _ => kb5.2.2.2.1 | .list _, _ => kb5.2.2.2.2.1 | .tuple _, _ => kb5.2.2.2.2.2 | .dict _, _ => kbE.2
theorem kit_seq {K : PySem.W.Frag} (d : PyData) (h : noDict d = true) : PySem.W.kitAny K (.type (tyN d)) [.type "tuple", .type "list"] = some (isTup d || isLst d) :=
  kitAny_cons (b := isTup d) (kit_ty (kit_tuple d h)) (fun e => by rw [e, Bool.false_or]; exact kitAny_cons (b := isLst d) (kit_ty (kit_list d h)) (fun e => by rw [e]; exact kitAny_nil) (fun e => e)) (fun e => by rw [e, Bool.true_or])
theorem bt_list : bootBuiltins "list" = some (.type "list") := by decide +kernel
theorem bt_str : bootBuiltins "str" = some (.type "str") := by decide +kernel
/-- data of depth n at most, not too long -/
def Al : Nat → PyData → Prop
  | 0, d => flatD d = true
  | n + 1, d => flatD d = true ∨ ∃ l, (d = .list l ∨ d = .tuple l) ∧ l.length ≤ 900 ∧ ∀ x ∈ l, Al n x
abbrev spAl (n : Nat) : Sp := spF (fun ds => ∃ d, ds = [d, d] ∧ Al n d) (fun _ r => r = .bool true) 2
theorem shp_nil : Shp (.list []) := by
  show (true && decide _) = true
  simp [PyData.depth, PyData.depthAll]
end
end SK


set_option Elab.async false
set_option linter.all false
set_option maxRecDepth 100000
set_option maxHeartbeats 1000000
namespace SK
open PySem SW
open L2 hiding Same
/-! ### the mathematics of webs -/
/-- all halls, factors and steps at once -/
theorem fac_all : ((List.range 14).all fun (h : Nat) => if h < 2 then true else (facs h).all fun f => decide (1 ≤ f) && decide (f ≤ (h : Int) - 1) && ((facs h).any fun g => decide (f * g % h = 1 % h)) && ((irng 1 (h - 1)).all fun s => decide (1 ≤ s * f % h) && decide (s * f % h ≤ (h : Int) - 1))) = true := by decide +kernel
theorem fac_of {h : Int} (h1 : 2 ≤ h) (h2 : h ≤ 13) {f : Int} (hf : f ∈ facs h) : (1 ≤ f ∧ f ≤ h - 1) ∧ (∃ g ∈ facs h, f * g % h = 1 % h) ∧ ∀ s, 1 ≤ s → s ≤ h - 1 → 1 ≤ s * f % h ∧ s * f % h ≤ h - 1 := by
  have q := List.all_eq_true.mp fac_all h.toNat (List.mem_range.mpr (by omega))
  have e : ((h.toNat : Nat) : Int) = h := by omega
  have n2 : ¬ h.toNat < 2 := by omega
  simp only [if_neg n2, e] at q
  have q2 := List.all_eq_true.mp q f hf
  simp only [Bool.and_eq_true, decide_eq_true_eq] at q2
  obtain ⟨⟨⟨a, b⟩, c⟩, d⟩ := q2
  refine ⟨⟨a, b⟩, ?_, fun s s1 s2 => ?_⟩
  · obtain ⟨g, hg, eg⟩ := List.any_eq_true.mp c
    exact ⟨g, hg, of_decide_eq_true eg⟩
  · have z := List.all_eq_true.mp d s (List.mem_map.mpr ⟨(s - 1).toNat, List.mem_range.mpr (by omega), by omega⟩)
    simp only [Bool.and_eq_true, decide_eq_true_eq] at z
    exact z
theorem pw_lt_le {l : List Int} (h : l.Pairwise (· < ·)) : l.Pairwise (fun a b => leI a b = true) := h.imp fun h => decide_eq_true (Int.le_of_lt h)
theorem pw_le_lt : ∀ {l : List Int}, l.Pairwise (fun a b => leI a b = true) → l.Nodup → l.Pairwise (· < ·)
  | [], _, _ => List.Pairwise.nil
  | x :: l, h, n => by
    obtain ⟨h1, h2⟩ := List.pairwise_cons.mp h
    obtain ⟨n1, n2⟩ := List.nodup_cons.mp n
    refine List.pairwise_cons.mpr ⟨fun y hy => ?_, pw_le_lt h2 n2⟩
    have := of_decide_eq_true (h1 y hy)
    have ne : x ≠ y := fun e => n1 (e ▸ hy)
    omega
theorem lt_nodup {l : List Int} (h : l.Pairwise (· < ·)) : l.Nodup := h.imp fun h e => by subst e; exact absurd h (Int.lt_irrefl _)
theorem leI_tr : Ord leI (fun _ => True) := ordI
theorem srt_isort (l : List Int) : (isort leI l).Pairwise (fun a b => leI a b = true) := isort_sorted ordI fun _ _ => trivial
/-- what is back again -/
theorem mod_inv {h f g s : Int} (h1 : 2 ≤ h) (e : f * g % h = 1 % h) (s1 : 1 ≤ s) (s2 : s ≤ h - 1) : s * f % h * g % h = s := by
  have e1 : s * f % h * g % h = s * f * g % h := by rw [Int.mul_emod (s * f % h), Int.emod_emod, ← Int.mul_emod]
  rw [e1, Int.mul_assoc, Int.mul_emod, e, ← Int.mul_emod, Int.mul_one]
  exact Int.emod_eq_of_lt (by omega) (by omega)
theorem mult_ok {h : Int} {st : List Int} (W : WebOk h st) {f : Int} (hf : f ∈ facs h) : WebOk h (multSt h st f) := by
  obtain ⟨⟨h1, h2⟩, h3, h4⟩ := W
  obtain ⟨_, ⟨g, hg, eg⟩, hs⟩ := fac_of h1 h2 hf
  have pm := isort_perm leI (st.map fun s => s * f % h)
  refine ⟨⟨h1, h2⟩, fun x hx => ?_, pw_le_lt (srt_isort _) (pm.nodup_iff.mpr ?_)⟩
  · obtain ⟨s, hs', rfl⟩ := List.mem_map.mp (pm.mem_iff.mp hx)
    exact hs s (h3 s hs').1 (h3 s hs').2
  · rw [List.nodup_iff_pairwise_ne, List.pairwise_map]
    refine (lt_nodup h4).imp_of_mem fun {a b} ha hb n e => n ?_
    have ea := mod_inv h1 eg (h3 a ha).1 (h3 a ha).2
    have eb := mod_inv h1 eg (h3 b hb).1 (h3 b hb).2
    rw [← ea, ← eb, e]
theorem mult_back {h : Int} {st : List Int} (W : WebOk h st) {f g : Int} (hf : f ∈ facs h) (eg : f * g % h = 1 % h) : multSt h (multSt h st f) g = st := by
  obtain ⟨⟨h1, h2⟩, h3, h4⟩ := W
  have pm := isort_perm leI (st.map fun s => s * f % h)
  symm
  refine isort_eq ordI (fun _ _ => trivial) ?_ (pw_lt_le h4)
  have p2 := pm.map fun s => s * g % h
  rw [List.map_map] at p2
  have e : st.map ((fun s => s * g % h) ∘ fun s => s * f % h) = st := by
    conv => rhs; rw [← List.map_id st]
    refine List.map_congr_left fun s hs => ?_
    exact mod_inv h1 eg (h3 s hs).1 (h3 s hs).2
  rw [e] at p2
  exact p2.symm
def muls (h : Int) (st : List Int) : List (List Int) := (facs h).map (multSt h st)
/-- being a multiple goes both ways -/
theorem muls_symm {h : Int} {st ss : List Int} (W : WebOk h st) (hm : ss ∈ muls h st) : st ∈ muls h ss := by
  obtain ⟨f, hf, rfl⟩ := List.mem_map.mp hm
  obtain ⟨_, ⟨g, hg, eg⟩, _⟩ := fac_of W.1.1 W.1.2 hf
  exact List.mem_map.mpr ⟨g, hg, mult_back W hf eg⟩
/-- turned round -/
theorem turn_eq {h : Int} {st : List Int} (W : WebOk h st) : multSt h st (h - 1) = (irng 1 (h - 1).toNat).filter fun s => decide (h - s ∈ st) := by
  obtain ⟨⟨h1, h2⟩, h3, h4⟩ := W
  have e : st.map (fun s => s * (h - 1) % h) = st.map fun s => h - s := List.map_congr_left fun s hs => by
    have b := h3 s hs
    have e1 : s * (h - 1) = (h - s) + h * (s - 1) := by
      rw [Int.mul_sub, Int.mul_one, Int.mul_sub, Int.mul_one, Int.mul_comm s h]
      omega
    rw [e1, Int.add_mul_emod_self_left]
    exact Int.emod_eq_of_lt (by omega) (by omega)
  show isort leI (st.map fun s => s * (h - 1) % h) = _
  rw [e]
  symm
  have nd1 : ((irng 1 (h - 1).toNat).filter fun s => decide (h - s ∈ st)).Nodup := (lt_nodup (irng_pw 1 _)).filter _
  have nd2 : (st.map fun s => h - s).Nodup := by
    rw [List.nodup_iff_pairwise_ne, List.pairwise_map]
    exact (lt_nodup h4).imp fun n e => n (by omega)
  refine isort_eq ordI (fun _ _ => trivial) ?_ (pw_lt_le ((irng_pw 1 _).sublist List.filter_sublist))
  refine (List.perm_ext_iff_of_nodup nd1 nd2).mpr fun x => ?_
  rw [List.mem_filter, List.mem_map]
  constructor
  · rintro ⟨hx, hd⟩
    exact ⟨h - x, of_decide_eq_true hd, by omega⟩
  · rintro ⟨s, hs, rfl⟩
    have b := h3 s hs
    refine ⟨List.mem_map.mpr ⟨(h - s - 1).toNat, List.mem_range.mpr (by omega), by omega⟩, decide_eq_true ?_⟩
    have e2 : h - (h - s) = s := by omega
    rw [e2]
    exact hs
/-! ### the ways of a web are ways of a net -/
theorem wayR_mem {h : Int} {st : List Int} (W : WebOk h st) {p : Int × Int} (hp : p ∈ wayR h st h.toNat) : (0 ≤ p.1 ∧ p.1 ≤ h - 1) ∧ (0 ≤ p.2 ∧ p.2 ≤ h - 1) ∧ p.1 ≠ p.2 := by
  obtain ⟨⟨h1, h2⟩, h3, h4⟩ := W
  unfold wayR at hp
  obtain ⟨a, ha, hp⟩ := List.mem_flatMap.mp hp
  obtain ⟨s, hs, rfl⟩ := List.mem_map.mp hp
  have b := irng_mem ha
  have c := h3 s hs
  refine ⟨by constructor <;> (show _ ≤ _; omega), ⟨Int.emod_nonneg _ (by omega), by have := Int.emod_lt_of_pos (a + s) (show 0 < h by omega); show (a + s) % h ≤ h - 1; omega⟩, fun e => ?_⟩
  have e' : a = (a + s) % h := e
  have d := Int.emod_add_mul_ediv (a + s) h
  rw [← e'] at d
  have z : h * ((a + s) / h) = s := by omega
  rcases Int.lt_or_le ((a + s) / h) 1 with q | q
  · have : h * ((a + s) / h) ≤ h * 0 := Int.mul_le_mul_of_nonneg_left (by omega) (by omega)
    omega
  · have : h * 1 ≤ h * ((a + s) / h) := Int.mul_le_mul_of_nonneg_left q (by omega)
    omega
theorem wayR_nodup {h : Int} {st : List Int} (W : WebOk h st) : (wayR h st h.toNat).Nodup := by
  obtain ⟨⟨h1, h2⟩, h3, h4⟩ := W
  unfold wayR
  rw [List.nodup_iff_pairwise_ne, List.pairwise_flatMap]
  refine ⟨fun a ha => ?_, (irng_pw 0 _).imp fun {a b} hab => fun x hx y hy e => ?_⟩
  · rw [List.pairwise_map]
    refine (lt_nodup h4).imp_of_mem fun {s t} hs ht n e => n ?_
    have e2 : (a + s) % h = (a + t) % h := congrArg Prod.snd e
    have b1 := h3 s hs
    have b2 := h3 t ht
    have d1 := Int.emod_add_mul_ediv (a + s) h
    have d2 := Int.emod_add_mul_ediv (a + t) h
    have z : h * ((a + s) / h) - h * ((a + t) / h) = s - t := by omega
    rw [← Int.mul_sub] at z
    rcases Int.lt_trichotomy ((a + s) / h - (a + t) / h) 0 with q | q | q
    · have : h * ((a + s) / h - (a + t) / h) ≤ h * (-1) := Int.mul_le_mul_of_nonneg_left (by omega) (by omega)
      omega
    · rw [q, Int.mul_zero] at z; omega
    · have : h * 1 ≤ h * ((a + s) / h - (a + t) / h) := Int.mul_le_mul_of_nonneg_left (by omega) (by omega)
      omega
  · obtain ⟨s, _, rfl⟩ := List.mem_map.mp hx
    obtain ⟨t, _, rfl⟩ := List.mem_map.mp hy
    have : a = b := congrArg Prod.fst e
    omega
theorem asc_pairs : ∀ {l : List (Int × Int)}, l.Pairwise (fun a b => leP a b = true) → l.Nodup → ascD (l.map pairI) = true
  | [], _, _ => rfl
  | [_], _, _ => rfl
  | a :: b :: l, h, n => by
    obtain ⟨h1, h2⟩ := List.pairwise_cons.mp h
    obtain ⟨n1, n2⟩ := List.nodup_cons.mp n
    have ih := asc_pairs h2 n2
    unfold ascD at ih ⊢
    show ((pairI a, pairI b) :: ((b :: l).map pairI).zip (((b :: l).map pairI).drop 1)).all _ = true
    rw [List.all_cons, ih, Bool.and_true]
    have q := h1 b List.mem_cons_self
    have ne : a ≠ b := fun e => n1 (e ▸ List.mem_cons_self)
    show HT.lexLt [a.1, a.2] [b.1, b.2] = true
    unfold leP at q
    simp only [Bool.or_eq_true, Bool.and_eq_true, decide_eq_true_eq] at q
    rw [HT.lexLt_cons]
    by_cases e : a.1 = b.1
    · rw [if_pos e, HT.lexLt_cons]
      have ne2 : a.2 ≠ b.2 := fun z => ne (Prod.ext e z)
      rw [if_neg ne2]
      exact decide_eq_true (by omega)
    · rw [if_neg e]
      exact decide_eq_true (by omega)
theorem net_right {h : Int} {st : List Int} (W : WebOk h st) : wrongNet (FNet h st) = "" := by
  have e1 : isNum (.int h) 1 13 = true := by have := W.1; simp [isNum]; omega
  have pm := isort_perm leP (wayR h st h.toNat)
  have e2 : areWays (FWays h st) h = true := by
    show (((wayL h st).map pairI).all _ && _) = true
    have ea : ascD ((wayL h st).map pairI) = true := asc_pairs (isort_sorted ordP fun _ _ => trivial) (pm.nodup_iff.mpr (wayR_nodup W))
    rw [ea, Bool.and_true, List.all_map]
    refine List.all_eq_true.mpr fun p hp => ?_
    obtain ⟨⟨a1, a2⟩, ⟨b1, b2⟩, ne⟩ := wayR_mem W (pm.mem_iff.mp hp)
    show (isNum (.int p.1) 0 (h - 1) && (isNum (.int p.2) 0 (h - 1) && !(p.1 == p.2))) = true
    simp [isNum, a1, a2, b1, b2, ne]
  show (if _ then (if _ then _ else _) else _) = _
  rw [e1, if_pos rfl, show areWays (FWays h st) (intOf (.int h)) = true from e2, if_pos rfl]
/-! ### shapes of lists of webs -/
theorem canLay_webs (h : Int) : ∀ L : List (List Int), PyData.canLayAll0 (L.map (web h)) = true
  | [] => rfl
  | st :: L => by
    show ((web h st).canLay0 && PyData.canLayAll0 (L.map (web h))) = true
    rw [canLay_webs h L, SeqAt.canLay_of_shaped (shp_web h st)]; rfl
theorem depth_web (h : Int) (st : List Int) : (web h st).depth ≤ 3 := by
  have := depth_ints st
  simp only [web, PyData.depth, PyData.depthAll]
  omega
theorem depth_webs (h : Int) : ∀ L : List (List Int), PyData.depthAll (L.map (web h)) ≤ 3
  | [] => by simp [PyData.depthAll]
  | st :: L => by
    have := depth_webs h L
    have := depth_web h st
    simp only [List.map_cons, PyData.depthAll]
    omega
theorem shp_websT (h : Int) (L : List (List Int)) : Shp (.tuple (L.map (web h))) := by
  have := depth_webs h L
  show (PyData.canLayAll0 _ && decide _) = true
  rw [canLay_webs, decide_eq_true (by simp only [PyData.depth]; omega)]; rfl
theorem shp_websL (h : Int) (L : List (List Int)) : Shp (.list (L.map (web h))) := by
  have := depth_webs h L
  show (PyData.canLayAll0 _ && decide _) = true
  rw [canLay_webs, decide_eq_true (by simp only [PyData.depth]; omega)]; rfl
theorem any_web (h : Int) (st : List Int) (L : List (List Int)) : ((L.map (web h)).any fun z => PyData.eqv z (web h st)) = decide (st ∈ L) := by
  rw [List.any_map]
  induction L with
  | nil => rfl
  | cons a L ih =>
    rw [List.any_cons, ih]
    show (PyData.eqv (web h a) (web h st) || _) = _
    rw [eqv_web]
    by_cases e : a = st
    · subst e; simp
    · have e' : ¬ st = a := fun z => e z.symm
      simp [e, e']
end SK


set_option Elab.async false
set_option linter.all false
set_option maxRecDepth 100000
set_option maxHeartbeats 2000000
/-! SwSetI: len(set(t)) of a tuple of ints; name *= int; is not None as a value. -/
namespace SW
open PySem PySem.Spec PyProof.Rows
open L2 hiding Same
variable [Nm]
/-- len(set(t)), t a tuple of ints -/
def tLenSetT (K : PySem.W.Frag) (ta : TE) : TE := fun σ H Q => ta σ H fun x H1 => ∃ (t : Addr) (ns : List Int), x = .ref t ∧ SqT K H1 t (ns.map V.int) ∧ ns.length ≤ 1000 ∧ ∀ ks : List Int, ks.Nodup → (∀ k, k ∈ ks ↔ k ∈ ns) → Q (.int (ks.length : Nat)) H1
theorem pe_lenSetT {X : Cx} {a : Expr} {ta : TE} {p p2 q pos : Pos} (hg : Gl X "len") (hm : X.mg "len" = none) (hg2 : Gl X "set") (hm2 : X.mg "set" = none) (ha : PE X a ta) (hc : X.calm = true)
    (na : starEach [a] X.env = (false, eval a X.env) :: starEach [] X.env := by rfl) : PE X (.Call (.Name "len" p) [.Call (.Name "set" p2) [a] [] q] [] pos) (tLenSetT X.K ta) := by
  refine ⟨fun pins s σ H Q I h => ?_⟩
  refine Call_ (ld_blt I hg hm boot_len (PyProof.Rows.callWith_builtin1 (PyProof.Rows.args_cons ?_ rfl) rfl rfl))
  refine Call_ (ld_blt I hg2 hm2 PyProof.Rows.boot_set (PyProof.Rows.callWith_type1 (PyProof.Rows.args_cons (thn (ha.run pins s σ H _ I h) fun v s1 ⟨x, H1, I1, r1, q1⟩ => PyProof.Rows.args_nil ?_) na) na rfl))
  obtain ⟨t, ns, rfl, hq, hl, q1⟩ := q1
  cases r1
  obtain ⟨its, rv, pt, hz⟩ := I1.tuple hq
  refine call_set_tupI ns (I1.ok.hd hc) (show s1.heap.IsTuple t its.toArray from pt) (ints_of_vals rv) (by unfold scanBound; omega) fun h' tk c R1 hcn k => PyProof.Rows.args_nil ?_
  obtain ⟨o, es, ep, t, ho, hex, hd, _, nd, mem, hb, hf, hn, _⟩ := R1
  have I2 : Inv X pins σ H1 { s1 with heap := h', toks := tk } := I1.kept k
  have el : (es.toList.map keyOf).length = es.size := by rw [List.length_map, Array.length_toList]
  have z := q1 (es.toList.map keyOf) nd fun k => by rw [← mem k, decide_eq_true_eq]
  rw [el] at z
  exact call_len_set ho hex hd hf (by omega) ⟨.int (es.size : Nat), H1, I2.tok _, ⟨_, rfl⟩, z⟩
/-- each once -/
def once : List Int → List Int
  | [] => []
  | x :: xs => if x ∈ once xs then once xs else x :: once xs
theorem once_mem : ∀ {xs : List Int} {x : Int}, x ∈ once xs ↔ x ∈ xs
  | [], x => Iff.rfl
  | y :: xs, x => by
    unfold once
    by_cases c : y ∈ once xs
    · rw [if_pos c, once_mem, List.mem_cons]
      exact ⟨.inr, fun z => z.elim (fun e => e ▸ once_mem.mp c) id⟩
    · rw [if_neg c, List.mem_cons, List.mem_cons, once_mem]
theorem once_nodup : ∀ xs : List Int, (once xs).Nodup
  | [] => List.nodup_nil
  | y :: xs => by
    unfold once
    by_cases c : y ∈ once xs
    · rw [if_pos c]; exact once_nodup xs
    · rw [if_neg c]; exact List.nodup_cons.mpr ⟨c, once_nodup xs⟩
theorem nodup_len {α : Type} [DecidableEq α] : ∀ {as bs : List α}, as.Nodup → (∀ x ∈ as, x ∈ bs) → as.length ≤ bs.length
  | [], bs, _, _ => Nat.zero_le _
  | a :: as, bs, n, h => by
    obtain ⟨n1, n2⟩ := List.nodup_cons.mp n
    have ha := h a List.mem_cons_self
    have ih := nodup_len (as := as) (bs := bs.erase a) n2 fun x hx => (List.mem_erase_of_ne fun (e : x = a) => n1 (e ▸ hx)).mpr (h x (List.mem_cons_of_mem _ hx))
    rw [List.length_erase_of_mem ha] at ih
    have := List.length_pos_of_mem ha
    rw [List.length_cons]
    omega
theorem nodup_same {α : Type} [DecidableEq α] {as bs : List α} (n : as.Nodup) (m : bs.Nodup) (h : ∀ x, x ∈ as ↔ x ∈ bs) : as.length = bs.length :=
  Nat.le_antisymm (nodup_len n fun x => (h x).mp) (nodup_len m fun x => (h x).mpr)
/-- no element twice exactly if as many distinct ones as elements -/
theorem nodup_of_len {α : Type} [DecidableEq α] : ∀ {bs as : List α}, as.Nodup → (∀ x ∈ bs, x ∈ as) → (∀ x ∈ as, x ∈ bs) → as.length = bs.length → bs.Nodup := by
  intro bs
  induction bs with
  | nil => intros; exact List.nodup_nil
  | cons b bs ih =>
    intro as n h1 h2 e
    have hb : b ∈ as := h1 b List.mem_cons_self
    have nb : b ∉ bs := fun hb2 => by
      have : as.length ≤ bs.length := nodup_len n fun x hx => by
        rcases List.mem_cons.mp (h2 x hx) with z | z
        · rw [z]; exact hb2
        · exact z
      rw [e, List.length_cons] at this
      omega
    refine List.nodup_cons.mpr ⟨nb, ih (as := as.erase b) (n.erase b) (fun x hx => ?_) (fun x hx => ?_) ?_⟩
    · exact (List.mem_erase_of_ne fun (e : x = b) => nb (e ▸ hx)).mpr (h1 x (List.mem_cons_of_mem _ hx))
    · have hx2 := (n.mem_erase_iff.mp hx)
      rcases List.mem_cons.mp (h2 x hx2.2) with z | z
      · exact absurd z hx2.1
      · exact z
    · rw [List.length_erase_of_mem hb, e, List.length_cons] <;> rfl
theorem len_nodup {α : Type} [DecidableEq α] {ks ns : List α} (n : ks.Nodup) (h : ∀ x, x ∈ ks ↔ x ∈ ns) : ks.length = ns.length ↔ ns.Nodup :=
  ⟨fun e => nodup_of_len n (fun x => (h x).mpr) (fun x => (h x).mp) e, fun m => nodup_same n m h⟩
section
variable {I : Type} {X : I → Cx} {H0 : Hp} {ρ : Env1} {tg e a b c : Expr} {es rest : List Expr} {pos : Pos}
variable {P : Program} {w : World} {K : PySem.W.Frag} {mg : Str → Option Value} {base : Heap} {k : Nat} {x : Str} {p : Pos} {ps : List Str} {D : Ends} {sts : List Stmt}
/-- len(set(t)) of a tuple of ints -/
theorem ev_lenSetT {ns : List Int} {n : Nat} {p2 q : Pos} (hA : ∀ i, At (X i) P w K mg base k) (hm : mg "len" = none) (hm2 : mg "set" = none) (h : EV X H0 ρ a (.tuple (ns.map .int))) (hl : ns.length ≤ 1000) (hn : ∀ ks : List Int, ks.Nodup → (∀ k, k ∈ ks ↔ k ∈ ns) → ks.length = n)
    (hg : ∀ i, Gl (X i) "len" := by intro _; rfl) (hg2 : ∀ i, Gl (X i) "set" := by intro _; rfl) (ns' : ∀ i, starEach (a :: []) (X i).env = (false, eval a (X i).env) :: starEach [] (X i).env := by intro _; rfl) :
    EV X H0 ρ (.Call (.Name "len" p) [.Call (.Name "set" p2) [a] [] q] [] pos) (.int (n : Int)) := .mk fun σ H s r H1 Q s1 k =>
  ⟨tLenSetT K (uE X a), fun i => (hA i).K ▸ pe_lenSetT (hg i) (by rw [(hA i).mg]; exact hm) (hg2 i) (by rw [(hA i).mg]; exact hm2) (pe_u i) (hA i).calm (ns' i), h σ H s r H1 _ s1 fun v H2 d s2 rv e => by
    subst e
    cases rv with
    | tup hh t =>
      rw [t.ints_inv] at hh
      exact ⟨_, ns, rfl, SqT.of hh, hl, fun ks h1 h2 => k _ H2 _ s2 (hn ks h1 h2 ▸ .int _) rfl⟩⟩
theorem ev_not_non {d : PyData} {j pos'} (ha : EV X H0 ρ a d) : EV X H0 ρ (.Compare a [.IsNot] [.Constant .none j pos'] pos) (.bool (!isNon d)) := .mk fun σ H s r H1 Q s1 k =>
  ⟨_, fun i => pe_cmp (pc_notN (pe_u i)), ha σ H s r H1 _ s1 fun v H2 x s2 r e2 => by
    subst e2
    refine k _ H2 _ s2 (.bl _) ?_
    cases r <;> rfl⟩
/-- x *= e, ints -/
theorem ws_augMul {i : Nat} {y : Str} {m n : Int} {pos' : Pos} (h0 : ρ[i]? = some (some (.dat (.int m)))) (h : EV X H0 ρ e (.int n)) (hc : CMul m n) {N : List Str} {sc : Scope} (S : Sc X N sc) (q : WS X H0 (ρ.set i (some (.dat (.int (m * n))))) sts D) (hi : ∀ i', (X i').N[i]? = some y := by intro _; rfl) (hx : ∀ i', Loc (X i').env.scope y := by intro _; exact Or.inl rfl)
    (hf : ∀ i', (X i').fn y = true ∨ (X i').env.scope.names.lookup y = some .local := by intro _; first | exact Or.inl rfl | exact Or.inr rfl) : WS X H0 ρ (.AugAssign (.Name y pos') .Mult e pos :: sts) D := .mk fun σ H s r => by
  obtain ⟨v, e1, r1⟩ := r.get h0
  cases r1
  exact wb_cons (fun i' => ps_aug (S.ndx i') (hi i') (hx i') (pe_u i') iop_mul (hf i')) ⟨_, e1, h σ H s r H _ (Same.refl _) fun v' H2 d s2 r2 e2 => by
    subst e2
    cases r2
    exact ⟨m, n, rfl, rfl, hc, q.run _ H2 (s.trans s2) ((r.mono s2).set (.int _))⟩⟩
end
end SW

set_option Elab.async false
set_option linter.all false
set_option maxRecDepth 100000
set_option maxHeartbeats 1000000
/-! Sk2f: nets that pass; check_net, _check_two, is_order, _led. -/
namespace SK
open PySem SW
open L2 hiding Same
open LamX (TabB)
local macro_rules | `(tactic| walk_at "v") => `(tactic| first | exact ev_var (fun _ => pv 0) rfl | exact ev_var (fun _ => pv 1) rfl | exact ev_var (fun _ => pv 2) rfl | exact ev_var (fun _ => pv 3) rfl | exact ev_var (fun _ => pv 4) rfl | exact ev_var (fun _ => pv 5) rfl | exact ev_var (fun _ => pv 6) rfl)
section
variable {P : Program} {w : World} {K : PySem.W.Frag} {mg : Str → Option Value} {base : Heap}
def wayI (ws : Wy) : List (Int × Int) := ws.map fun p => ((p.1 : Int), (p.2 : Int))
theorem wyD_eq (ws : Wy) : wyD ws = (wayI ws).map pairI := by unfold wyD wayI; rw [List.map_map] <;> rfl
/-- a net that passes: its ways rise -/
structure NetV (n : Nat) (ws : Wy) : Prop extends NetOk n ws where
  srt : (wayI ws).Pairwise (fun a b => leP a b = true)
  nd : ws.Nodup
theorem wayI_nodup {ws : Wy} (h : ws.Nodup) : (wayI ws).Nodup := by
  refine List.pairwise_map.mpr (h.imp fun {a b} ne e => ne ?_)
  have e1 := congrArg Prod.fst e
  have e2 := congrArg Prod.snd e
  have e1 : (a.1 : Int) = b.1 := e1
  have e2 : (a.2 : Int) = b.2 := e2
  exact Prod.ext (by omega) (by omega)
theorem netV_right {n : Nat} {ws : Wy} (h : NetV n ws) : wrongNet (netN n ws) = "" := by
  have e1 : isNum (.int (n : Int)) 1 13 = true := by have := h.lo; have := h.hi; simp [isNum]; omega
  have e2 : areWays (.tuple (wyD ws)) (n : Int) = true := by
    rw [wyD_eq]
    show (((wayI ws).map pairI).all _ && _) = true
    rw [asc_pairs h.srt (wayI_nodup h.nd), Bool.and_true, List.all_map]
    refine List.all_eq_true.mpr fun p hp => ?_
    obtain ⟨q, hq, e⟩ := List.mem_map.mp hp
    subst e
    obtain ⟨a1, a2, a3⟩ := h.way q hq
    have ne : ((q.1 : Int) == (q.2 : Int)) = false := beq_eq_false_iff_ne.mpr (by omega)
    show (isNum (.int q.1) 0 ((n : Int) - 1) && (isNum (.int q.2) 0 ((n : Int) - 1) && !((q.1 : Int) == (q.2 : Int)))) = true
    rw [ne]
    simp [isNum]
    omega
  show (if _ then (if _ then _ else _) else _) = _
  rw [e1, if_pos rfl, show areWays (.tuple (wyD ws)) (intOf (.int (n : Int))) = true from e2, if_pos rfl]
abbrev Gwn (P : Program) (w : World) (K : PySem.W.Frag) (mg : Str → Option Value) (base : Heap) : Prop := Fn P w K mg base 4 "wrong_in_net" ["value"] (spE f_wrong_in_net 1)
theorem sc_check_net : FnScope ["value", "wrong"] ["value"] (defScope s_check_net) := ⟨rfl, rfl, rfl, by decide +kernel, rfl, by decide +kernel, by decide +kernel⟩
abbrev Gcn (P : Program) (w : World) (K : PySem.W.Frag) (mg : Str → Option Value) (base : Heap) : Prop := Fn P w K mg base 5 "check_net" ["value"]
  (spX [] (fun x : Nat × Wy => [netN x.1 x.2]) (fun x => NetV x.1 x.2) (fun _ => .none) 1)
theorem fn_check_net (T : Tx K mg) (g : Gwn P w K mg base) : Gcn P w K mg base := by
  refine T.d_check_net.fnX sc_check_net (fun _ _ => rfl) fun f cdv A outer s H1 H0 Q ⟨n, ws⟩ hA S ok ht q => ?_
  have ok : NetV n ws := ok
  refine ws_set (i := 1) (ev_call hA g (el1 (by walk_at "v")) (d := .str (wrongNet (netN n ws))) (by rfl)) S fun d' e => ?_
  subst e
  refine ws_no (EB.to (eb_neS (by walk_at "v") ev_str) (by rw [netV_right ok]; rfl)) ?_
  exact ws_nil fun σ H s r => q .non H _ s .non rfl
theorem sc_check_two : FnScope ["one", "other"] ["one", "other"] (defScope s_check_two) := ⟨rfl, rfl, rfl, by decide +kernel, rfl, by decide +kernel, by decide +kernel⟩
abbrev Gct (P : Program) (w : World) (K : PySem.W.Frag) (mg : Str → Option Value) (base : Heap) : Prop := Fn P w K mg base 6 "_check_two" ["one", "other"]
  (spX [] (fun x : Nat × Wy × Wy => [netN x.1 x.2.1, netN x.1 x.2.2]) (fun x => NetV x.1 x.2.1 ∧ NetV x.1 x.2.2) (fun _ => .none) 2)
theorem fn_check_two (T : Tx K mg) (g : Gcn P w K mg base) : Gct P w K mg base := by
  refine T.d_check_two.fnX sc_check_two (fun _ _ => rfl) fun f cdv A outer s H1 H0 Q ⟨n, ws, us⟩ hA S ⟨ok, ok2⟩ ht q => ?_
  have ok : NetV n ws := ok
  have ok2 : NetV n us := ok2
  refine ws_expr (ev_callX hA g (n, ws) ok (el1 (by walk_at "v"))) ?_
  refine ws_expr (ev_callX hA g (n, us) ok2 (el1 (by walk_at "v"))) ?_
  refine ws_no (EB.to (eb_neI (ev_ixT hA (ds := [.int (n : Int), .tuple (wyD ws)]) (by walk_at "v") ev_int rfl) (ev_ixT hA (ds := [.int (n : Int), .tuple (wyD us)]) (by walk_at "v") ev_int rfl)) (by simp)) ?_
  exact ws_nil fun σ H s r => q .non H _ s .non rfl
/-! ### orders -/
def isOrd (d : PyData) (n : Nat) : Bool := match d with
  | .tuple xs => decide (xs.length = n) && (xs.all (fun x => isNum x 0 ((n : Int) - 1)) && decide (xs.map intOf).Nodup)
  | _ => false
theorem sc_is_order : FnScope ["value", "halls", "hall"] ["value", "halls"] (defScope s_is_order) := ⟨rfl, rfl, rfl, by decide +kernel, rfl, by decide +kernel, by decide +kernel⟩
abbrev Gor (P : Program) (w : World) (K : PySem.W.Frag) (mg : Str → Option Value) (base : Heap) : Prop := Fn P w K mg base 2 "is_order" ["value", "halls"]
  (spX [] (fun x : PyData × Nat => [x.1, .int x.2]) (fun x => x.2 ≤ 100) (fun x => .bool (isOrd x.1 x.2)) 2)
theorem fn_is_order (T : Tx K mg) (g : Gnum P w K mg base) : Gor P w K mg base := by
  refine T.d_is_order.fnX sc_is_order (fun _ _ => rfl) fun f cdv A outer s H1 H0 Q ⟨d0, n⟩ hA S ok ht q => ?_
  have ok : n ≤ 100 := ok
  have q : ∀ (v : V) (H' : Hp) (d' : PyData), Same H0 H' → Rp H' v d' → d' = .bool (isOrd d0 n) → Q v H' := q
  cases hd : isTup d0 with
  | true =>
    cases d0 with
    | tuple xs =>
      refine ws_ifr (et_w (eb_or (eb_not (eb_val (ev_isi hA T.b_isinstance T.b_tuple bt_tuple (by walk_at "v") (kit_tuple _)))) fun _ => ew_or1 (eb_neI (ev_lenT hA T.b_len (by walk_at "v")) (by walk_at "v")))) (fun c => ?_) fun c => ?_
      · have c' : xs.length ≠ n := fun e => by
          have c2 : (!decide ((xs.length : Int) = (n : Int))) = true := by simpa [isTup] using c
          rw [e] at c2
          simp at c2
        refine ws_ret ev_bl fun v H d s r e => q v H d s r (e.trans ?_)
        show _ = PyData.bool (decide (xs.length = n) && _)
        rw [decide_eq_false c', Bool.false_and]
      · have c' : xs.length = n := by
          have c2 : (!decide ((xs.length : Int) = (n : Int))) = false := by simpa [isTup] using c
          simp at c2
          omega
        have e1 : (xs.map fun x => PyData.bool (isNum x 0 ((n : Int) - 1))) = (xs.map fun x => isNum x 0 ((n : Int) - 1)).map PyData.bool := by rw [List.map_map]; rfl
        have e2 : (xs.map fun x => isNum x 0 ((n : Int) - 1)).all id = xs.all fun x => isNum x 0 ((n : Int) - 1) := by rw [List.all_map]; rfl
        refine ws_ret (EV.to (ev_and (q := decide (xs.map intOf).Nodup) (ev_all hA T.b_all (EV.to (ev_lcMap hA S (i := 2) (ei_tup hA (by walk_at "v")) (fun x => .bool (isNum x 0 ((n : Int) - 1))) fun x hx => ?_) (congrArg PyData.list e1))) fun h => ev_one (EV.to (ev_eqI (ev_lenSetT (ns := xs.map intOf) (n := (once (xs.map intOf)).length) hA T.b_len T.b_set (EV.to (by walk_at "v") ?_) ?_ ?_) (by walk_at "v")) ?_)) ?_) q
        · exact ev_call (at_blk hA) g (el3 (by walk_at "v") ev_int (ev_sub (by walk_at "v") ev_int)) (by rfl)
        · rw [e2] at h
          exact congrArg PyData.tuple (map_intOf (List.all_eq_true.mpr fun x hx => by
            obtain ⟨i, rfl, _⟩ := isNum_int (List.all_eq_true.mp h x hx)
            rfl))
        · rw [List.length_map]; omega
        · intro ks h1 h2
          exact nodup_same h1 (once_nodup _) fun x => (h2 x).trans once_mem.symm
        · have z := len_nodup (once_nodup (xs.map intOf)) fun x => once_mem
          rw [List.length_map, c'] at z
          refine congrArg PyData.bool (decide_eq_decide.mpr ?_)
          rw [← z]
          omega
        · rw [e2]
          show _ = PyData.bool (decide (xs.length = n) && _)
          rw [decide_eq_true c', Bool.true_and]
    | _ => cases hd
  | false =>
    refine ws_ifr (et_w (eb_or (q := true) (eb_not (eb_val (ev_isi hA T.b_isinstance T.b_tuple bt_tuple (by walk_at "v") (kit_tuple d0)))) fun c => by rw [hd] at c; cases c)) (fun _ => ws_ret ev_bl fun v H d s r e => q v H d s r (e.trans ?_)) fun c => by rw [hd] at c; cases c
    cases d0 with
    | tuple xs => cases hd
    | _ => rfl
end
end SK


set_option Elab.async false
set_option linter.all false
set_option maxRecDepth 100000
set_option maxHeartbeats 1000000
/-! Sk2g: _led, likeness, are_alike. -/
namespace SK
open PySem SW
open L2 hiding Same
open LamX (TabB)
local macro_rules | `(tactic| walk_at "v") => `(tactic| first | exact ev_var (fun _ => pv 0) rfl | exact ev_var (fun _ => pv 1) rfl | exact ev_var (fun _ => pv 2) rfl | exact ev_var (fun _ => pv 3) rfl | exact ev_var (fun _ => pv 4) rfl | exact ev_var (fun _ => pv 5) rfl | exact ev_var (fun _ => pv 6) rfl)
section
variable {P : Program} {w : World} {K : PySem.W.Frag} {mg : Str → Option Value} {base : Heap}
def ordD (o : List Nat) : PyData := .tuple (natsD o)
def netI (n : Nat) (l : List (Int × Int)) : PyData := .tuple [.int (n : Int), .tuple (l.map pairI)]
theorem netN_I (n : Nat) (ws : Wy) : netN n ws = netI n (wayI ws) := by unfold netN netI; rw [wyD_eq]
def ledL (o : List Nat) (ws : Wy) : List (Int × Int) := ws.map fun p => (((o.getD p.1 0 : Nat) : Int), ((o.getD p.2 0 : Nat) : Int))
def ledW (o : List Nat) (ws : Wy) : List (Int × Int) := isort leP (ledL o ws)
theorem ord_at {o : List Nat} {i : Nat} (h : i < o.length) : atI (natsD o) (i : Int) = some (.int ((o.getD i 0 : Nat) : Int)) := atI_nat (by
  unfold natsD
  rw [List.getElem?_map, List.getElem?_eq_getElem h, List.getD_eq_getElem?_getD, List.getElem?_eq_getElem h] <;> rfl)
def ledF (o : List Nat) : PyData → Option PyData
  | .tuple [.int a, .int b] => some (pairI (((o.getD a.toNat 0 : Nat) : Int), ((o.getD b.toNat 0 : Nat) : Int)))
  | _ => none
theorem led_fm (o : List Nat) : ∀ ws : Wy, (wyD ws).filterMap (ledF o) = (ledL o ws).map pairI
  | [] => rfl
  | p :: ws => by
    have ih := led_fm o ws
    unfold wyD ledL at ih ⊢
    rw [List.map_cons, List.map_cons, List.map_cons, ← ih] <;> rfl
theorem sc_led : FnScope ["net", "order", "start", "end"] ["net", "order"] (defScope s_led) := ⟨rfl, rfl, rfl, by decide +kernel, rfl, by decide +kernel, by decide +kernel⟩
abbrev Gled (P : Program) (w : World) (K : PySem.W.Frag) (mg : Str → Option Value) (base : Heap) : Prop := Fn P w K mg base 1 "_led" ["net", "order"]
  (spX [] (fun x : Nat × Wy × List Nat => [netN x.1 x.2.1, ordD x.2.2]) (fun x => NetOk x.1 x.2.1 ∧ x.2.2.length = x.1) (fun x => netI x.1 (ledW x.2.2 x.2.1)) 2)
theorem fn_led (T : Tx K mg) : Gled P w K mg base := by
  refine T.d_led.fnX sc_led (fun _ _ => rfl) fun f cdv A outer s H1 H0 Q ⟨n, ws, o⟩ hA S ⟨ok, ho⟩ ht q => ?_
  have ok : NetOk n ws := ok
  have ho : o.length = n := ho
  refine ws_ret (ev_tup (el2 (ev_ixT hA (ds := [.int (n : Int), .tuple (wyD ws)]) (by walk_at "v") ev_int rfl) (ev_tupleOf hA T.b_tuple (ev_sortedP (ns := ledL o ws) hA T.b_sorted (EV.to (ev_lcF hA S (own := [("start", 2), ("end", 3)]) (g := gTup K 2 (gCons (gName 2) (gCons (gName 3) gNil))) (pg_two (at_blk hA) (fun _ => S.nd)) (ei_tup hA (ev_ixT hA (ds := [.int (n : Int), .tuple (wyD ws)]) (by walk_at "v") ev_int rfl))
    (ledF o) fun d hd => ?_) ?_))))) q
  · obtain ⟨p, hp, rfl⟩ := List.mem_map.mp hd
    obtain ⟨a1, a2, _⟩ := ok.way p hp
    refine ⟨_, tgr_two, ebs_nil, fun y e1 => ?_⟩
    cases e1
    exact ev_tup (el2 (ev_ixT (at_blk hA) (ds := natsD o) (by walk_at "v") (by walk_at "v") (ord_at (by omega))) (ev_ixT (at_blk hA) (ds := natsD o) (by walk_at "v") (by walk_at "v") (ord_at (by omega))))
  · exact congrArg PyData.list (led_fm o ws)
def lookP (l : Pl) (h : Nat) : Nat := ((l.find? fun q => decide (q.1 = h)).map Prod.snd).getD 0
theorem lookI_P : ∀ {l : Pl} {h : Nat}, (∃ q ∈ l, q.1 = h) → lookI (l.map fun q => ((q.1 : Int), PyData.int (q.2 : Int))) (h : Int) = some (.int ((lookP l h : Nat) : Int))
  | [], h, e => by obtain ⟨q, hq, _⟩ := e; cases hq
  | q :: l, h, e => by
    unfold lookI lookP
    rw [List.map_cons, List.find?_cons, List.find?_cons]
    by_cases c : q.1 = h
    · have c' : ((q.1 : Int) = (h : Int)) := by rw [c]
      rw [decide_eq_true c, decide_eq_true c'] <;> rfl
    · have c' : ¬ ((q.1 : Int) = (h : Int)) := by omega
      rw [decide_eq_false c, decide_eq_false c']
      obtain ⟨r, hr, e⟩ := e
      rcases List.mem_cons.mp hr with z | z
      · exact absurd (z ▸ e) c
      · exact lookI_P ⟨r, z, e⟩
theorem places_all {n : Nat} {A B : Tb} : ∀ {m : Nat} {R : Rm} {l : Pl}, RmOk n R → R.length = m → placesR n A B m R = some l → ∀ k ∈ R.map Prod.fst, ∃ q ∈ l, q.1 = k
  | 0, R, l, _, hl, h, k, hk => by
    rw [List.eq_nil_of_length_eq_zero hl] at hk
    cases hk
  | m + 1, R, l, ok, hl, h, k, hk => by
    have ne : R ≠ [] := fun z => by rw [z] at hl; cases hl
    obtain ⟨place, hp, e⟩ := List.exists_of_findSome?_eq_some h
    cases e2 : placesR n A B m (leftR A B R (hallR R) place) with
    | none => rw [e2] at e; cases e
    | some l' =>
      rw [e2] at e
      cases e
      by_cases c : k = hallR R
      · exact ⟨_, List.mem_append_right _ List.mem_cons_self, c.symm⟩
      · obtain ⟨p, hpR, ep⟩ := List.mem_map.mp hk
        obtain ⟨q, hq, eq⟩ := places_all (leftR_ok ok) (left_len ok hl (hallR_mem ne)) e2 k (by
          unfold leftR
          rw [List.map_map]
          exact List.mem_map.mpr ⟨p, List.mem_filter.mpr ⟨hpR, by rw [ep]; exact decide_eq_true c⟩, ep⟩)
        exact ⟨q, List.mem_append_left _ hq, eq⟩
def likeR (n : Nat) (ws us : Wy) : Option Pl := placesR n (joinT n ws) (joinT n us) n (firstR n (joinT n ws) (joinT n us))
def likeO (n : Nat) (ws us : Wy) : Option (List Nat) := (likeR n ws us).map fun l => (List.range n).map (lookP l)
def outO : Option (List Nat) → PyData
  | none => .none
  | some o => ordD o
theorem sc_likeness : FnScope ["one", "other", "here", "there", "places", "hall"] ["one", "other"] (defScope s_likeness) := ⟨rfl, rfl, rfl, by decide +kernel, rfl, by decide +kernel, by decide +kernel⟩
abbrev Glk (P : Program) (w : World) (K : PySem.W.Frag) (mg : Str → Option Value) (base : Heap) (t : Addr) : Prop := Fn P w K mg base 18 "likeness" ["one", "other"]
  (spX [t] (fun x : Nat × Wy × Wy => [netN x.1 x.2.1, netN x.1 x.2.2]) (fun x => NetV x.1 x.2.1 ∧ NetV x.1 x.2.2) (fun x => outO (likeO x.1 x.2.1 x.2.2)) 2)
theorem joinT_ok {n : Nat} {ws : Wy} (h : NetOk n ws) : TabOk n (joinT n ws) := by
  have h1 : ∀ (us : Wy) (T : Tb), (∀ p ∈ us, p.1 < n ∧ p.2 < n ∧ p.1 ≠ p.2) → TabOk n T → TabOk n (us.foldl wayT T) := by
    intro us
    induction us with
    | nil => exact fun T _ h => h
    | cons p us ih =>
      intro T hp h
      obtain ⟨a, b, _⟩ := hp p List.mem_cons_self
      exact ih _ (fun q hq => hp q (List.mem_cons_of_mem _ hq)) (addT_ok (addT_ok h a) b)
  have h2 : ∀ (l : List Nat) (T : Tb), (∀ i ∈ l, i < n) → TabOk n T → TabOk n (l.foldl (fun T h => setT T h h 4) T) := by
    intro l
    induction l with
    | nil => exact fun T _ h => h
    | cons p us ih => exact fun T hp h => ih _ (fun q hq => hp q (List.mem_cons_of_mem _ hq)) (setT_ok h (hp p List.mem_cons_self))
  exact h2 _ _ (fun i hi => List.mem_range.mp hi) (h1 _ _ h.way (zeroT_ok h.lo h.hi))
theorem firstR_len (n : Nat) (A B : Tb) : (firstR n A B).length = n := by unfold firstR; rw [List.length_map, List.length_range]
theorem fn_likeness (T : Tx K mg) {t : Addr} (gc : Gct P w K mg base) (gj : Gjt P w K mg base) (gf : Gfirst P w K mg base) (gp : ∀ m, Gpl P w K mg base t m) : Glk P w K mg base t := by
  refine T.d_likeness.fnX sc_likeness (fun _ _ => rfl) fun f cdv A outer s H1 H0 Q ⟨n, ws, us⟩ hA S ⟨ok, ok2⟩ ht q => ?_
  have ok : NetV n ws := ok
  have ok2 : NetV n us := ok2
  have oa := joinT_ok ok.toNetOk
  have ob := joinT_ok ok2.toNetOk
  have hn := ok.hi
  have gp' := gp n
  have q : ∀ (v : V) (H' : Hp) (d' : PyData), Same H0 H' → Rp H' v d' → d' = outO (likeO n ws us) → Q v H' := q
  refine ws_expr (ev_callX hA (gc.up (by omega)) (n, ws, us) ⟨ok, ok2⟩ (el2 (by walk_at "v") (by walk_at "v"))) ?_
  refine ws_set (i := 2) (ev_callX hA (gj.up (by omega)) (n, ws) ok.toNetOk (el1 (by walk_at "v"))) S fun d' e' => ?_
  subst e'
  refine ws_set (i := 3) (ev_callX hA (gj.up (by omega)) (n, us) ok2.toNetOk (el1 (by walk_at "v"))) S fun d' e' => ?_
  subst e'
  refine ws_set (i := 4) (ev_callX hA (gp'.up (by omega)) (n, joinT n ws, joinT n us, firstR n (joinT n ws) (joinT n us)) ⟨oa, ob, firstR_ok hn, firstR_len _ _ _⟩ (el3 (by walk_at "v") (by walk_at "v") (ev_callX hA (gf.up (by omega)) (n, joinT n ws, joinT n us) ⟨oa, ob⟩ (el2 (by walk_at "v") (by walk_at "v")))) (ht := ht)) S fun d' e' => ?_
  subst e'
  cases hl : likeR n ws us with
  | none =>
    have hl' : placesR n (joinT n ws) (joinT n us) n (firstR n (joinT n ws) (joinT n us)) = none := hl
    refine ws_ifr (b := true) (EB.to (eb_is_non (by walk_at "v")) (by rw [hl'] <;> rfl)) (fun _ => ws_ret ev_non fun v H d s r e => q v H d s r (e.trans ?_)) fun c => by cases c
    unfold likeO
    rw [hl] <;> rfl
  | some l =>
    have hl' : placesR n (joinT n ws) (joinT n us) n (firstR n (joinT n ws) (joinT n us)) = some l := hl
    refine ws_ifr (b := false) (EB.to (eb_is_non (by walk_at "v")) (by rw [hl'] <;> rfl)) (fun c => by cases c) fun _ => ?_
    have all := places_all (firstR_ok hn) (firstR_len _ _ _) hl'
    have keys : (firstR n (joinT n ws) (joinT n us)).map Prod.fst = List.range n := by
      unfold firstR
      rw [List.map_map]
      exact List.map_id' _
    rw [keys] at all
    refine ws_ret (ev_tupleOf hA T.b_tuple (ev_lcMap (i := 5) hA S (ei_rng1 hA T.b_range (ev_ixT hA (ds := [.int (n : Int), .tuple (wyD ws)]) (by walk_at "v") ev_int rfl) ⟨by omega, by omega⟩) (fun d => match d with
      | .int h => .int ((lookP l h.toNat : Nat) : Int)
      | _ => .none) fun d hd => ?_)) fun v H d s r e => q v H d s r (e.trans ?_)
    · rw [show ((n : Int)).toNat = n from rfl, rg0] at hd
      obtain ⟨h, hh, rfl⟩ := List.mem_map.mp hd
      exact ev_ixD (at_blk hA) (EV.to (by walk_at "v") (by rw [hl'] <;> rfl)) (by walk_at "v") (lookI_P (all h hh))
    · unfold likeO
      rw [hl, show ((n : Int)).toNat = n from rfl, rg0]
      show _ = PyData.tuple (natsD _)
      unfold natsD
      rw [List.map_map, List.map_map] <;> rfl
end
end SK


set_option Elab.async false
set_option linter.all false
set_option maxRecDepth 100000
set_option maxHeartbeats 1000000
/-! Sk2h: are_alike, shows_likeness, count_symmetries, is_even. -/
namespace SK
open PySem SW
open L2 hiding Same
open LamX (TabB)
local macro_rules | `(tactic| walk_at "v") => `(tactic| first | exact ev_var (fun _ => pv 0) rfl | exact ev_var (fun _ => pv 1) rfl | exact ev_var (fun _ => pv 2) rfl | exact ev_var (fun _ => pv 3) rfl | exact ev_var (fun _ => pv 4) rfl | exact ev_var (fun _ => pv 5) rfl | exact ev_var (fun _ => pv 6) rfl)
section
variable {P : Program} {w : World} {K : PySem.W.Frag} {mg : Str → Option Value} {base : Heap}
theorem isNon_outO (o : Option (List Nat)) : (!isNon (outO o)) = o.isSome := by cases o <;> rfl
theorem sc_are_alike : FnScope ["one", "other"] ["one", "other"] (defScope s_are_alike) := ⟨rfl, rfl, rfl, by decide +kernel, rfl, by decide +kernel, by decide +kernel⟩
abbrev Gaa (P : Program) (w : World) (K : PySem.W.Frag) (mg : Str → Option Value) (base : Heap) (t : Addr) : Prop := Fn P w K mg base 19 "are_alike" ["one", "other"]
  (spX [t] (fun x : Nat × Wy × Wy => [netN x.1 x.2.1, netN x.1 x.2.2]) (fun x => NetV x.1 x.2.1 ∧ NetV x.1 x.2.2) (fun x => .bool (likeO x.1 x.2.1 x.2.2).isSome) 2)
theorem fn_are_alike (T : Tx K mg) {t : Addr} (g : Glk P w K mg base t) : Gaa P w K mg base t := by
  refine T.d_are_alike.fnX sc_are_alike (fun _ _ => rfl) fun f cdv A outer s H1 H0 Q ⟨n, ws, us⟩ hA S ok ht q => ?_
  exact ws_ret (EV.to (ev_not_non (ev_callX hA g (n, ws, us) ok (el2 (by walk_at "v") (by walk_at "v")) (ht := ht))) (congrArg PyData.bool (isNon_outO _))) q
/-! ### nets as data, compared -/
theorem canLay_prs : ∀ l : List (Int × Int), PyData.canLayAll0 (l.map pairI) = true
  | [] => rfl
  | p :: l => by
    show (true && PyData.canLayAll0 (l.map pairI)) = true
    rw [canLay_prs l]; rfl
theorem depth_prs : ∀ l : List (Int × Int), PyData.depthAll (l.map pairI) ≤ 3
  | [] => by simp [PyData.depthAll]
  | p :: l => by
    have := depth_prs l
    have e : (pairI p).depth ≤ 3 := by simp [pairI, PyData.depth, PyData.depthAll]
    simp only [List.map_cons, PyData.depthAll]
    omega
theorem shp_netI (n : Nat) (l : List (Int × Int)) : Shp (netI n l) := by
  have e1 : (netI n l).canLay0 = true := by
    show (true && (PyData.canLayAll0 (l.map pairI) && true)) = true
    rw [canLay_prs l]; rfl
  have e2 : (netI n l).depth ≤ 64 := by
    have := depth_prs l
    simp only [netI, PyData.depth, PyData.depthAll]
    omega
  show (_ && _) = true
  rw [e1, decide_eq_true e2]; rfl
theorem eqv_pair (a b : Int × Int) : PyData.eqv (pairI a) (pairI b) = decide (a = b) := by
  show ((a.1 == b.1) && ((a.2 == b.2) && true)) = _
  rw [Bool.and_true, Bool.beq_eq_decide_eq, Bool.beq_eq_decide_eq, ← Bool.decide_and]
  exact decide_eq_decide.mpr ⟨fun ⟨x, y⟩ => Prod.ext x y, fun e => by rw [e]; exact ⟨rfl, rfl⟩⟩
theorem eqv_prs : ∀ l m : List (Int × Int), PyData.eqvAll (l.map pairI) (m.map pairI) = decide (l = m)
  | [], [] => rfl
  | [], _ :: _ => rfl
  | _ :: _, [] => rfl
  | a :: l, b :: m => by
    show (PyData.eqv (pairI a) (pairI b) && PyData.eqvAll (l.map pairI) (m.map pairI)) = _
    rw [eqv_prs l m, eqv_pair]
    by_cases e : a = b
    · subst e; simp
    · simp [e]
theorem eqv_netI (n : Nat) (l m : List (Int × Int)) : PyData.eqv (netI n l) (netI n m) = decide (l = m) := by
  show (((n : Int) == (n : Int)) && (PyData.eqvAll (l.map pairI) (m.map pairI) && true)) = _
  rw [eqv_prs, Bool.and_true, beq_self_eq_true, Bool.true_and]
def ordOf : PyData → List Nat
  | .tuple xs => xs.map fun x => (intOf x).toNat
  | _ => []
theorem isOrd_spec {d : PyData} {n : Nat} (h : isOrd d n = true) : d = ordD (ordOf d) ∧ (ordOf d).length = n ∧ (ordOf d).Nodup ∧ ∀ x ∈ ordOf d, x < n := by
  cases d with
  | tuple xs =>
    unfold isOrd at h
    simp only [Bool.and_eq_true, decide_eq_true_eq] at h
    obtain ⟨h1, h2, h3⟩ := h
    have num : ∀ x ∈ xs, ∃ i : Nat, x = .int (i : Int) ∧ i < n := fun x hx => by
      obtain ⟨i, rfl, lo, hi⟩ := isNum_int (List.all_eq_true.mp h2 x hx)
      exact ⟨i.toNat, by rw [Int.toNat_of_nonneg lo], by omega⟩
    refine ⟨?_, by show (xs.map _).length = n; rw [List.length_map]; exact h1, ?_, ?_⟩
    · show PyData.tuple xs = .tuple ((xs.map fun x => (intOf x).toNat).map fun (i : Nat) => PyData.int (i : Int))
      rw [List.map_map]
      refine congrArg PyData.tuple ((List.map_id' xs).symm.trans (List.map_congr_left fun x hx => ?_))
      obtain ⟨i, rfl, _⟩ := num x hx
      rfl
    · show (xs.map fun x => (intOf x).toNat).Nodup
      refine List.pairwise_map.mpr ((List.pairwise_map.mp h3).imp_of_mem fun {a b} ha hb ne e => ne ?_)
      obtain ⟨i, rfl, _⟩ := num a ha
      obtain ⟨j, rfl, _⟩ := num b hb
      have e : i = j := e
      rw [e]
    · intro y hy
      obtain ⟨x, hx, rfl⟩ := List.mem_map.mp hy
      obtain ⟨i, rfl, lt⟩ := num x hx
      exact lt
  | _ => cases h
def showsB (n : Nat) (ws us : Wy) (d : PyData) : Bool := if isNon d then !(likeO n ws us).isSome else isOrd d n && decide (ledW (ordOf d) ws = wayI us)
theorem sc_shows_likeness : FnScope ["one", "other", "value"] ["one", "other", "value"] (defScope s_shows_likeness) := ⟨rfl, rfl, rfl, by decide +kernel, rfl, by decide +kernel, by decide +kernel⟩
abbrev Gsl (P : Program) (w : World) (K : PySem.W.Frag) (mg : Str → Option Value) (base : Heap) (t : Addr) : Prop := Fn P w K mg base 20 "shows_likeness" ["one", "other", "value"]
  (spX [t] (fun x : Nat × Wy × Wy × PyData => [netN x.1 x.2.1, netN x.1 x.2.2.1, x.2.2.2]) (fun x => NetV x.1 x.2.1 ∧ NetV x.1 x.2.2.1) (fun x => .bool (showsB x.1 x.2.1 x.2.2.1 x.2.2.2)) 3)
theorem fn_shows_likeness (T : Tx K mg) {t : Addr} (gc : Gct P w K mg base) (ga : Gaa P w K mg base t) (go : Gor P w K mg base) (gl : Gled P w K mg base) : Gsl P w K mg base t := by
  refine T.d_shows_likeness.fnX sc_shows_likeness (fun _ _ => rfl) fun f cdv A outer s H1 H0 Q ⟨n, ws, us, d0⟩ hA S ⟨ok, ok2⟩ ht q => ?_
  have ok : NetV n ws := ok
  have ok2 : NetV n us := ok2
  have hn := ok.hi
  have q : ∀ (v : V) (H' : Hp) (d' : PyData), Same H0 H' → Rp H' v d' → d' = .bool (showsB n ws us d0) → Q v H' := q
  unfold showsB at q
  refine ws_expr (ev_callX hA (gc.up (by omega)) (n, ws, us) ⟨ok, ok2⟩ (el2 (by walk_at "v") (by walk_at "v"))) ?_
  refine ws_ifr (b := isNon d0) (eb_is_non (by walk_at "v")) (fun c => ?_) fun c => ?_
  · rw [c, if_pos rfl] at q
    exact ws_ret (ev_not (ev_callX hA ga (n, ws, us) ⟨ok, ok2⟩ (el2 (by walk_at "v") (by walk_at "v")) (ht := ht))) q
  · rw [c, if_neg Bool.false_ne_true] at q
    refine ws_ret (ev_and (q := decide (ledW (ordOf d0) ws = wayI us)) (ev_callX hA (go.up (by omega)) (d0, n) (by show n ≤ 100; omega) (el2 (by walk_at "v") (ev_ixT hA (ds := [.int (n : Int), .tuple (wyD ws)]) (by walk_at "v") ev_int rfl))) fun h => ev_one ?_) q
    obtain ⟨e1, e2, _⟩ := isOrd_spec h
    exact EV.to (ev_eq hA (ev_callX hA (gl.up (by omega)) (n, ws, ordOf d0) ⟨ok.toNetOk, e2⟩ (el2 (by walk_at "v") (EV.to (by walk_at "v") e1))) (EV.to (by walk_at "v") (netN_I n us)) (shp_netI _ _) (shp_netI _ _)) (congrArg PyData.bool (eqv_netI _ _ _))
/-! ### count_symmetries, is_even -/
def csS (n : Nat) (T : Tb) (R : Rm) : Nat → Rm × Nat
  | 0 => (R, 1)
  | i + 1 => (leftR T T (csS n T R i).1 i i, (csS n T R i).2 * reach n T (csS n T R i).1 i)
def csym (n : Nat) (ws : Wy) : Nat := (csS n (joinT n ws) (firstR n (joinT n ws) (joinT n ws)) n).2
theorem first_keys (n : Nat) (A B : Tb) : (firstR n A B).map Prod.fst = List.range n := by
  unfold firstR
  rw [List.map_map]
  exact List.map_id' _
theorem csS_ok {n : Nat} {T : Tb} (hn : n ≤ 13) : ∀ i, RmOk n (csS n T (firstR n T T) i).1 ∧ ∀ k, i ≤ k → k < n → ∃ p ∈ (csS n T (firstR n T T) i).1, p.1 = k
  | 0 => ⟨firstR_ok hn, fun k _ lt => by
    have : k ∈ (firstR n T T).map Prod.fst := by rw [first_keys]; exact List.mem_range.mpr lt
    obtain ⟨p, hp, e⟩ := List.mem_map.mp this
    exact ⟨p, hp, e⟩⟩
  | i + 1 => by
    obtain ⟨h1, h2⟩ := csS_ok (T := T) hn i
    refine ⟨leftR_ok h1, fun k le lt => ?_⟩
    obtain ⟨p, hp, e⟩ := h2 k (by omega) lt
    show ∃ p ∈ leftR T T (csS n T (firstR n T T) i).1 i i, p.1 = k
    unfold leftR
    exact ⟨_, List.mem_map.mpr ⟨p, List.mem_filter.mpr ⟨hp, decide_eq_true (by omega)⟩, rfl⟩, e⟩
theorem reach_le {n : Nat} {T : Tb} {R : Rm} {h : Nat} (ok : RmOk n R) (hk : ∃ p ∈ R, p.1 = h) : reach n T R h ≤ 13 := by
  obtain ⟨p, hp, e⟩ := hk
  subst e
  unfold reach
  refine Nat.le_trans (List.length_filter_le _ _) ?_
  rw [lookR_mem ok.nd hp]
  exact ok.few p hp
theorem sc_count_symmetries : FnScope ["net", "table", "rooms", "many", "hall"] ["net"] (defScope s_count_symmetries) := ⟨rfl, rfl, rfl, by decide +kernel, rfl, by decide +kernel, by decide +kernel⟩
abbrev Gcs (P : Program) (w : World) (K : PySem.W.Frag) (mg : Str → Option Value) (base : Heap) (t : Addr) : Prop := Fn P w K mg base 18 "count_symmetries" ["net"]
  (spX [t] (fun x : Nat × Wy => [netN x.1 x.2]) (fun x => NetV x.1 x.2) (fun x => .int (csym x.1 x.2 : Nat)) 1)
theorem fn_count_symmetries (T : Tx K mg) {t : Addr} (gc : Gcn P w K mg base) (gj : Gjt P w K mg base) (gf : Gfirst P w K mg base) (gr : Gcr P w K mg base t) (gl : Gleft P w K mg base) : Gcs P w K mg base t := by
  refine T.d_count_symmetries.fnX sc_count_symmetries (fun _ _ => rfl) fun f cdv A outer s H1 H0 Q ⟨n, ws⟩ hA S ok ht q => ?_
  have ok : NetV n ws := ok
  have oa := joinT_ok ok.toNetOk
  have hn := ok.hi
  have q : ∀ (v : V) (H' : Hp) (d' : PyData), Same H0 H' → Rp H' v d' → d' = .int (csym n ws : Nat) → Q v H' := q
  unfold csym at q
  refine ws_expr (ev_callX hA (gc.up (by omega)) (n, ws) ok (el1 (by walk_at "v"))) ?_
  refine ws_set (i := 1) (ev_callX hA (gj.up (by omega)) (n, ws) ok.toNetOk (el1 (by walk_at "v"))) S fun d' e' => ?_
  subst e'
  refine ws_set (i := 2) (ev_callX hA (gf.up (by omega)) (n, joinT n ws, joinT n ws) ⟨oa, oa⟩ (el2 (by walk_at "v") (by walk_at "v"))) S fun d' e' => ?_
  subst e'
  refine ws_set (i := 3) ev_int S fun d' e' => ?_
  subst e'
  generalize joinT n ws = B at oa q ⊢
  have inv := csS_ok (n := n) (T := B) hn
  refine ws_for hA (ei_rng1 hA T.b_range (ev_ixT hA (ds := [.int (n : Int), .tuple (wyD ws)]) (by walk_at "v") ev_int rfl) ⟨by omega, by omega⟩) (g := gName 4) (fun i => pg_name S.nd rfl (Or.inl rfl) (Or.inl rfl))
    (fun i ρ' => ∃ o4, ρ' = [some (.dat (netN n ws)), some (.dat (dT B)), some (.dat (dR (csS n B (firstR n B B) i).1)), some (.dat (.int ((csS n B (firstR n B B) i).2 : Nat))), o4]) ⟨none, rfl⟩ ?_ ?_ (fun _ => PassesOwn.never)
  · rintro i d ρ' H2 hd ⟨o4, rfl⟩ s2
    rw [show ((n : Int)).toNat = n from rfl, rg0, List.getElem?_map] at hd
    obtain ⟨h, hh, rfl⟩ := Option.map_eq_some_iff.mp hd
    obtain ⟨lt, eh⟩ := List.getElem?_eq_some_iff.mp hh
    rw [List.length_range] at lt
    rw [List.getElem_range] at eh
    subst eh
    obtain ⟨i1, i2⟩ := inv i
    have hk := i2 i (Nat.le_refl _) lt
    have rl := reach_le (T := B) i1 hk
    refine ⟨_, tgr_name.to0, fun N hN => ?_⟩
    refine ws_augMul (i := 3) rfl (ev_callX hA gr (n, B, (csS n B (firstR n B B) i).1, i) ⟨oa, i1, hk⟩ (el3 (by walk_at "v") (by walk_at "v") (by walk_at "v")) (ht := fun P' hP => s2.tab _ (ht P' hP))) (Or.inr (show -(2 ^ 64) < ((reach n B (csS n B (firstR n B B) i).1 i : Nat) : Int) ∧ ((reach n B (csS n B (firstR n B B) i).1 i : Nat) : Int) < 2 ^ 64 from ⟨by omega, by omega⟩)) S ?_
    refine ws_set (i := 2) (ev_callX hA (gl.up (by omega)) (n, B, B, (csS n B (firstR n B B) i).1, i, i) ⟨oa, oa, i1, lt, lt⟩ (el_cons (by walk_at "v") (el_cons (by walk_at "v") (el3 (by walk_at "v") (by walk_at "v") (by walk_at "v"))))) S fun d' e' => ?_
    subst e'
    refine ws_nil fun σ H s3 r => hN _ σ H ⟨some (.dat (.int (i : Int))), ?_⟩ s3 r
    show _ = [some (SD.dat (netN n ws)), some (.dat (dT B)), some (.dat (dR (leftR B B (csS n B (firstR n B B) i).1 i i))), some (.dat (.int (((csS n B (firstR n B B) i).2 * reach n B (csS n B (firstR n B B) i).1 i : Nat) : Int))), some (.dat (.int (i : Int)))]
    rw [Int.natCast_mul] <;> rfl
  · rintro ρ' ⟨o4, rfl⟩
    rw [show (rgD 0 ((n : Int)).toNat).length = n from by rw [show ((n : Int)).toNat = n from rfl, rg0, List.length_map, List.length_range]]
    exact ws_ret (by walk_at "v") q
theorem sc_is_even : FnScope ["net", "table"] ["net"] (defScope s_is_even) := ⟨rfl, rfl, rfl, by decide +kernel, rfl, by decide +kernel, by decide +kernel⟩
def evenB (n : Nat) (ws : Wy) : Bool := decide (reach n (joinT n ws) (firstR n (joinT n ws) (joinT n ws)) 0 = n)
abbrev Gev (P : Program) (w : World) (K : PySem.W.Frag) (mg : Str → Option Value) (base : Heap) (t : Addr) : Prop := Fn P w K mg base 18 "is_even" ["net"]
  (spX [t] (fun x : Nat × Wy => [netN x.1 x.2]) (fun x => NetV x.1 x.2) (fun x => .bool (evenB x.1 x.2)) 1)
theorem fn_is_even (T : Tx K mg) {t : Addr} (gc : Gcn P w K mg base) (gj : Gjt P w K mg base) (gf : Gfirst P w K mg base) (gr : Gcr P w K mg base t) : Gev P w K mg base t := by
  refine T.d_is_even.fnX sc_is_even (fun _ _ => rfl) fun f cdv A outer s H1 H0 Q ⟨n, ws⟩ hA S ok ht q => ?_
  have ok : NetV n ws := ok
  have oa := joinT_ok ok.toNetOk
  have hn := ok.hi
  have lo := ok.lo
  have q : ∀ (v : V) (H' : Hp) (d' : PyData), Same H0 H' → Rp H' v d' → d' = .bool (evenB n ws) → Q v H' := q
  refine ws_expr (ev_callX hA (gc.up (by omega)) (n, ws) ok (el1 (by walk_at "v"))) ?_
  refine ws_set (i := 1) (ev_callX hA (gj.up (by omega)) (n, ws) ok.toNetOk (el1 (by walk_at "v"))) S fun d' e' => ?_
  subst e'
  have hk := (csS_ok (n := n) (T := joinT n ws) hn 0).2 0 (Nat.le_refl _) (by omega)
  refine ws_ret (EV.to (ev_eqI (ev_callX hA gr (n, joinT n ws, firstR n (joinT n ws) (joinT n ws), 0) ⟨oa, firstR_ok hn, hk⟩ (el3 (by walk_at "v") (ev_callX hA (gf.up (by omega)) (n, joinT n ws, joinT n ws) ⟨oa, oa⟩ (el2 (by walk_at "v") (by walk_at "v"))) ev_int) (ht := ht)) (ev_ixT hA (ds := [.int (n : Int), .tuple (wyD ws)]) (by walk_at "v") ev_int rfl)) ?_) q
  refine congrArg PyData.bool (decide_eq_decide.mpr ?_)
  show ((reach n (joinT n ws) (firstR n (joinT n ws) (joinT n ws)) 0 : Nat) : Int) = (n : Int) ↔ _
  omega
end
end SK


set_option Elab.async false
set_option linter.all false
set_option maxRecDepth 100000
set_option maxHeartbeats 2000000
/-! SwL: while, a, b = x, y (names), list(range(n)), tuples joined, xs.pop(i). -/
namespace SW
open PySem
open L2 hiding Same
variable [Nm]
section
variable {I : Type} {X : I → Cx} {σ : St} {H : Hp} {tg e a b c : Expr} {es rest : List Expr} {pos : Pos}
variable {P : Program} {w : World} {K : PySem.W.Frag} {mg : Str → Option Value} {base : Heap} {k : Nat} {x : Str} {p : Pos} {ps : List Str} {D : Ends} {sts body : List Stmt}
theorem wb_while (W : Nat → St → Hp → Prop) {m0 : Nat} (h0 : W m0 σ H)
    (step : ∀ m σ' H', W m σ' H' → ∃ Ψ : Bool → Prop, DT X σ' H' c Ψ ∧ (∀ H1, Same H' H1 → Ψ true → ∀ N : St → Hp → Prop, (∀ σ2 H2 m', m' < m → W m' σ2 H2 → N σ2 H2) → uB X body { D with nx := N, ct := N, bk := fun σ H => uB X sts D σ H } σ' H1) ∧
      (∀ H1, Same H' H1 → Ψ false → uB X sts D σ' H1))
    (hp : ∀ i, PassesOwn (model (X i).prog (X i).w) (X i).A (X i).env (X i).xe) : uB X (.While c body [] pos :: sts) D σ H :=
  wb_cons (fun i => ps_while (hp i) (pt_u i) (pb_u i)) ⟨W, ⟨m0, h0⟩, fun m σ' H' w => by
    obtain ⟨Ψ, h, q1, q2⟩ := step m σ' H' w
    refine h.use fun b H1 s f => ?_
    cases b with
    | true =>
      rw [if_pos rfl]
      exact ⟨fun σ2 H2 => ∃ m', m' < m ∧ W m' σ2 H2, fun σ2 H2 z => z, q1 H1 s f _ fun σ2 H2 m' lt z => ⟨m', lt, z⟩⟩
    | false =>
      rw [if_neg Bool.false_ne_true]
      exact q2 H1 s f⟩
/-- a, b = x, y: local names -/
theorem wb_par {i j : Nat} {y z : Str} {px py pt : Pos} {kt k2 pt2} (hA : ∀ i, At (X i) P w K mg base k) {N : List Str} {sc : Scope} (S : Sc X N sc) (h : uA X [a, b] σ H fun vs H1 => ∃ v w, vs = [v, w] ∧ uB X sts D ((σ.set i (some v)).set j (some w)) H1) (hij : i ≠ j := by decide)
    (hi : ∀ i', (X i').N[i]? = some y := by intro _; rfl) (hj : ∀ i', (X i').N[j]? = some z := by intro _; rfl) (hx : ∀ i', (X i').env.scope.names.lookup y = some .local := by intro _; rfl) (hy : ∀ i', (X i').env.scope.names.lookup z = some .local := by intro _; rfl)
    (hw : ∀ i', swappedStores [.Tuple [.Name y px, .Name z py] kt pt] (.Tuple [a, b] k2 pt2) (X i').env = pure (some [y, z]) := by intro _; rfl)
    (hs : ∀ i', swapsWithSole [.Tuple [.Name y px, .Name z py] kt pt] (.Tuple [a, b] k2 pt2) pos.line (X i').env = pure false := by intro _; rfl) :
    uB X (.Assign [.Tuple [.Name y px, .Name z py] kt pt] (.Tuple [a, b] k2 pt2) pos :: sts) D σ H :=
  wb_cons (fun i' => ps_par (hA i').calm (S.ndx i') (hi i') (hj i') hij (hx i') (hy i') (pa_u i') (hw i') (hs i')) h
/-- xs.pop(i), xs in slot j -/
theorem ue_popAt {Q : VK} {j : Nat} {A : Addr} {vs : List V} {m : Str} {p1 p2 p3 : Pos} (hA : ∀ i, At (X i) P w K mg base k) (hj : ∀ i, PE (X i) (.Name m p1) (tVar j)) (hσ : σ[j]? = some (some (.ref A))) (hH : H A = some (.lst vs)) (hz : vs.length ≤ 1000)
    (he : uE X e σ H fun v H' => ∃ k : Nat, v = .int (k : Int) ∧ k < vs.length ∧ H' A = some (.lst vs) ∧ ∀ y, vs[k]? = some y → Q y (upd H' A (.lst (vs.eraseIdx k))))
    (hbase : ∀ i, attributeBase (.Name m p1) "pop" (X i).env (eval (.Name m p1) (X i).env) = eval (.Name m p1) (X i).env := by intro _; rfl) (hline : (p2.endLine == p3.line) = true := by rfl)
    (hfew : ∀ i, ((backTo p3 (starEach [e] (X i).env)).all (fun x => !x.1) && (backToKw p3 (keywordEach [] (X i).env)).all (fun x => x.1.isSome) && decide ([e].length + ([] : List Keyword).length + (if ([] : List Keyword).isEmpty then 0 else 1) < 30)) = true := by intro _; rfl)
    (hs : ∀ i, starEach [e] (X i).env = (false, eval e (X i).env) :: starEach [] (X i).env := by intro _; rfl) :
    uE X (.Call (.Attribute (.Name m p1) "pop" p2) [e] [] p3) σ H Q :=
  ⟨tBM K "list" rPopAt (tVar j) (tCons (uE X e) tNil), fun i => by
    have z := pe_bm (X := X i) PySem.F.plainAttrs_list PySem.F.slot_list_pop PySem.F.type_list_pop mt_popAt (hj i) (pa_cons (pe_u i) pa_nil (hs i)) (hbase i) (hfew i) hline (hs i) (by rfl)
    rw [(hA i).K] at z
    exact z, .ref A, hσ, .inl ⟨rfl, _, SqL.of hH⟩, ue_mono he fun v H' ⟨k, e1, lt, hA', q⟩ => by
      subst e1
      obtain ⟨y, hy⟩ : ∃ y, vs[k]? = some y := ⟨_, List.getElem?_eq_getElem lt⟩
      exact ⟨A, vs, (k : Int), k, y, rfl, rfl, hA', by omega, by omega, by
        unfold seqIndex?
        simp
        omega, hy, q y hy⟩⟩
end
section
variable {I : Type} {X : I → Cx} {H0 : Hp} {ρ : Env1} {tg e a b c : Expr} {es rest : List Expr} {pos : Pos}
variable {P : Program} {w : World} {K : PySem.W.Frag} {mg : Str → Option Value} {base : Heap} {k : Nat} {x : Str} {p : Pos} {ps : List Str} {D : Ends} {sts : List Stmt}
theorem EL.usa {σ : St} {H : Hp} {ds : List PyData} {Q : List V → Hp → Prop} (h : EL X H0 ρ es ds) (s : Same H0 H) (r : RpS H σ ρ) (q : ∀ vs H', Same H H' → RpA H' vs ds → Q vs H') : uA X es σ H Q :=
  h σ H s r H Q (Same.refl _) fun vs H2 d s2 ra e => q vs H2 s2 (e ▸ ra)
theorem EP.usa {σ : St} {H : Hp} {Φ : PyData → Prop} {Q : VK} (h : EP X H0 ρ e Φ) (s : Same H0 H) (r : RpS H σ ρ) (q : ∀ v H' d, Same H H' → Rp H' v d → Φ d → Q v H') : uE X e σ H Q :=
  h σ H s r H Q (Same.refl _) fun v H2 d s2 rv f => q v H2 d s2 rv f
/-- t + u, tuples -/
theorem ev_catT {xs ys : List PyData} (hA : ∀ i, At (X i) P w K mg base k) (ha : EV X H0 ρ a (.tuple xs)) (hb : EV X H0 ρ b (.tuple ys)) (hz : xs.length + ys.length ≤ 1000) : EV X H0 ρ (.BinOp a .Add b pos) (.tuple (xs ++ ys)) := .mk fun σ H s r =>
  de_op2 (fun i => (hA i).K ▸ op_catA) (fun v w' H Q r1 r2 q => by
    cases r1 with
    | tup h1 t1 => cases r2 with
      | tup h2 t2 =>
        refine ⟨_, _, _, _, rfl, rfl, SqT.of h1, SqT.of h2, by rw [t1.length, t2.length]; exact Nat.le_of_lt (small1000 hz), fun e => ?_, fun e1 e2 => ?_, fun _ _ p hp => q _ _ (same_upd hp) (.tup upd_same ((t1.append t2).mono (same_upd hp)))⟩
        · subst e
          cases t1
          exact q _ H (Same.refl _) (.tup h2 t2)
        · subst e2
          cases t2
          rw [List.append_nil] at q
          exact q _ H (Same.refl _) (.tup h1 t1)) (ha σ H s r) (hb σ H s r)
/-- list(range(n)) -/
theorem ev_listRg1 {n : Int} {p2 q : Pos} (hA : ∀ i, At (X i) P w K mg base k) (hm : mg "list" = none) (hm2 : mg "range" = none) (h : EV X H0 ρ a (.int n)) (hn : 0 ≤ n ∧ n ≤ 1000)
    (hg : ∀ i, Gl (X i) "list" := by intro _; rfl) (hg2 : ∀ i, Gl (X i) "range" := by intro _; rfl) (ns1 : ∀ i, starEach [.Call (.Name "range" p2) [a] [] q] (X i).env = (false, eval (.Call (.Name "range" p2) [a] [] q) (X i).env) :: starEach [] (X i).env := by intro _; rfl)
    (ns2 : ∀ i, starEach (a :: []) (X i).env = (false, eval a (X i).env) :: starEach [] (X i).env := by intro _; rfl) :
    EV X H0 ρ (.Call (.Name "list" p) [.Call (.Name "range" p2) [a] [] q] [] pos) (.list (rgD 0 n.toNat)) := .mk fun σ H s r H1 Q s1 k =>
  ⟨tLstRg (tRg1 (uE X a)), fun i => pe_listRg (hA i).calm (hg i) (by rw [(hA i).mg]; exact hm) (prg_1 (hg2 i) (by rw [(hA i).mg]; exact hm2) (pe_u i) (ns2 i)) (ns1 i), h σ H s r H1 _ s1 fun v H2 d s2 rv e => by
    subst e
    cases rv
    refine ⟨n, rfl, RgOk.of_le (by omega) (by omega) (by omega) (by omega), fun q hq => ?_⟩
    have e1 : rgV 0 n = ((List.range n.toNat).map fun (i : Nat) => (0 : Int) + i).map V.int := by
      unfold rgV
      rw [Int.sub_zero, List.map_map] <;> rfl
    have e2 : rgD 0 n.toNat = ((List.range n.toNat).map fun (i : Nat) => (0 : Int) + i).map PyData.int := by
      unfold rgD
      rw [List.map_map] <;> rfl
    refine k _ _ _ (s2.trans (same_upd hq)) ?_ rfl
    rw [e1, e2]
    exact .lst upd_same (RpA.ints _)⟩
/-- one name, a test of which one knows something -/
theorem ep_lcSub {elt : Expr} {scope : Scope} {y : Str} {i : Nat} {tp : Pos} {ds : List PyData} (hA : ∀ i, At (X i) P w K mg base k) {N : List Str} {sc : Scope} (S : Sc X N sc) (src : EI X H0 ρ (.Name y tp) e ds) (t : PyData → Bool) (f : PyData → PyData)
    (step : ∀ d, d ∈ ds → ET (blkF X scope) H0 ((wipeR ρ [i]).set i (some (.dat d))) c (fun b => b = true → t d = true) ∧ EV (blkF X scope) H0 ((wipeR ρ [i]).set i (some (.dat d))) elt (f d))
    (ok : blkC N sc scope [(y, i)] = true := by decide +kernel)
    (hi : ∀ i', (X i').N[i]? = some y := by intro _; rfl) (hx : ∀ i', Loc (blkF X scope i').env.scope y := by intro _; first | exact Or.inl rfl | exact Or.inr rfl) (hf : ∀ i', (blkF X scope i').fn y = true ∨ (blkF X scope i').env.scope.names.lookup y = some .local := by intro _; first | exact Or.inr rfl | exact Or.inl rfl)
    (hs : ∀ i x, foldedSetIterable e (X i).env x = pure x := by intro _ _; rfl) :
    EP X H0 ρ (.ListComp elt [⟨.Name y tp, e, [c], 0⟩] scope pos) (fun d => ∃ l, d = .list l ∧ l.Sublist ((ds.filter t).map f)) := .mk fun σ H s r => by
  refine (dp_lc (own := [(y, i)]) (g := gName i) hA S.ndx (S.ok ok) (fun i' => pg_name (S.ndx i'.1) (hi i'.1) (hx i') (hf i')) (src σ H s r) (fun j acc => acc.Sublist (((ds.take j).filter t).map f)) (by simp) (fun j d acc hd pv => ?_) hs).mono fun d ⟨acc, e1, e2⟩ => ⟨acc, e1, by rwa [List.take_length] at e2⟩
  refine ⟨_, tg_name, fun H' σ2 s' ⟨v, rv, e2⟩ => ?_⟩
  subst e2
  have q := ((r.mono s').wipe [i]).set (i := i) rv
  obtain ⟨h1, h2⟩ := step d (List.mem_of_getElem? hd)
  have e3 : ((ds.take (j + 1)).filter t).map f = ((ds.take j).filter t).map f ++ ([d].filter t).map f := by rw [List.take_succ, hd, List.filter_append, List.map_append] <;> rfl
  refine ⟨wipe_own, _, dts_one (h1 _ H' (s.trans s') q), fun _ => by rw [e3]; exact pv.trans (List.sublist_append_left _ _), fun z => ⟨_, h2 _ H' (s.trans s') q, fun y' e1 => ?_⟩⟩
  subst e1
  rw [e3, List.filter_cons_of_pos (z rfl)]
  exact pv.append (List.Sublist.refl _)
/-- a, b = x, y: names that hold data -/
theorem ws_par {i j : Nat} {y z : Str} {Φ Ψ : PyData → Prop} {px py pt : Pos} {kt k2 pt2} (hA : ∀ i, At (X i) P w K mg base k) (ha : EP X H0 ρ a Φ) (hb : EP X H0 ρ b Ψ) {N : List Str} {sc : Scope} (S : Sc X N sc) (q : ∀ d d', Φ d → Ψ d' → WS X H0 ((ρ.set i (some (.dat d))).set j (some (.dat d'))) sts D) (hij : i ≠ j := by decide)
    (hi : ∀ i', (X i').N[i]? = some y := by intro _; rfl) (hj : ∀ i', (X i').N[j]? = some z := by intro _; rfl) (hx : ∀ i', (X i').env.scope.names.lookup y = some .local := by intro _; rfl) (hy : ∀ i', (X i').env.scope.names.lookup z = some .local := by intro _; rfl)
    (hw : ∀ i', swappedStores [.Tuple [.Name y px, .Name z py] kt pt] (.Tuple [a, b] k2 pt2) (X i').env = pure (some [y, z]) := by intro _; rfl)
    (hs : ∀ i', swapsWithSole [.Tuple [.Name y px, .Name z py] kt pt] (.Tuple [a, b] k2 pt2) pos.line (X i').env = pure false := by intro _; rfl)
    (h1 : ∀ i, starEach [a, b] (X i).env = (false, eval a (X i).env) :: starEach [b] (X i).env := by intro _; rfl) (h2 : ∀ i, starEach [b] (X i).env = (false, eval b (X i).env) :: starEach [] (X i).env := by intro _; rfl) :
    WS X H0 ρ (.Assign [.Tuple [.Name y px, .Name z py] kt pt] (.Tuple [a, b] k2 pt2) pos :: sts) D := .mk fun σ H s r =>
  wb_par hA S ⟨tCons (uE X a) (tCons (uE X b) tNil), fun i => pa_cons (pe_u i) (pa_cons (pe_u i) pa_nil (h2 i)) (h1 i), EP.usa ha s r fun v H2 d s2 rv f => EP.usa hb (s.trans s2) (r.mono s2) fun v' H3 d' s3 rv' f' =>
    ⟨v, v', rfl, (q d d' f f').run _ H3 (s.trans (s2.trans s3)) (((r.mono (s2.trans s3)).set (rv.mono s3)).set rv')⟩⟩ hij hi hj hx hy hw hs
/-- list(t), t a tuple -/
theorem ev_listOfT {ds : List PyData} (hA : ∀ i, At (X i) P w K mg base k) (hm : mg "list" = none) (h : EV X H0 ρ e (.tuple ds)) (hg : ∀ i, Gl (X i) "list" := by intro _; rfl) (ns : ∀ i, starEach (e :: []) (X i).env = (false, eval e (X i).env) :: starEach [] (X i).env := by intro _; rfl) : EV X H0 ρ (.Call (.Name "list" p) [e] [] pos) (.list ds) := .mk fun σ H s r =>
  dp_callT hA (fun i => (hA i).K ▸ call_list_of (X := X i)) hm (by decide +kernel) (da1 (h σ H s r) ns) (fun _ ⟨d, e1, e2⟩ => by
    rw [e1, e2]
    intro vs H Q r q
    obtain ⟨v, rfl, rv⟩ := r.one
    cases rv with
    | tup hh t => exact ⟨_, _, rfl, .inr (SqT.of hh), fun l hl => q _ _ _ (same_upd hl) (.lst upd_same (t.mono (same_upd hl))) rfl⟩) hg (by decide) (by decide) ns (fun _ => rfl)
/-- a, b, c = e, by way of a tuple -/
theorem ws_three {i j l : Nat} {y z u : Str} {d1 d2 d3 : PyData} {py pz pu pt : Pos} {kt} (hA : ∀ i, At (X i) P w K mg base k) (h : EV X H0 ρ e (.tuple [d1, d2, d3])) {N : List Str} {sc : Scope} (S : Sc X N sc) (q : WS X H0 (((ρ.set i (some (.dat d1))).set j (some (.dat d2))).set l (some (.dat d3))) sts D)
    (hi : ∀ i', (X i').N[i]? = some y := by intro _; rfl) (hj : ∀ i', (X i').N[j]? = some z := by intro _; rfl) (hl : ∀ i', (X i').N[l]? = some u := by intro _; rfl)
    (hx : ∀ i', Loc (X i').env.scope y := by intro _; first | exact Or.inl rfl | exact Or.inr rfl) (hy : ∀ i', Loc (X i').env.scope z := by intro _; first | exact Or.inl rfl | exact Or.inr rfl) (hz : ∀ i', Loc (X i').env.scope u := by intro _; first | exact Or.inl rfl | exact Or.inr rfl)
    (f1 : ∀ i', (X i').fn y = true ∨ (X i').env.scope.names.lookup y = some .local := by intro _; first | exact Or.inl rfl | exact Or.inr rfl) (f2 : ∀ i', (X i').fn z = true ∨ (X i').env.scope.names.lookup z = some .local := by intro _; first | exact Or.inl rfl | exact Or.inr rfl) (f3 : ∀ i', (X i').fn u = true ∨ (X i').env.scope.names.lookup u = some .local := by intro _; first | exact Or.inl rfl | exact Or.inr rfl)
    (hs : ∀ i', swapsWithSole [.Tuple [.Name y py, .Name z pz, .Name u pu] kt pt] e pos.line (X i').env = pure false := by intro _; rfl) (hw : ∀ i', swappedStores [.Tuple [.Name y py, .Name z pz, .Name u pu] kt pt] e (X i').env = pure none := by intro _; rfl) : WS X H0 ρ (.Assign [.Tuple [.Name y py, .Name z pz, .Name u pu] kt pt] e pos :: sts) D := .mk fun σ H s r =>
  wb_cons (t := tAsg (uE X e) (gTup K 3 (gCons (gName i) (gCons (gName j) (gCons (gName l) gNil))))) (fun i' => ps_asg (pe_u i') ((hA i').K ▸ pg_tup (hA i').calm (pgs_cons (pg_name (S.ndx i') (hi i') (hx i') (f1 i')) (pgs_cons (pg_name (S.ndx i') (hj i') (hy i') (f2 i')) (pgs_cons (pg_name (S.ndx i') (hl i') (hz i') (f3 i')) pgs_nil rfl) rfl) rfl) rfl rfl) (hs i') (hw i'))
    (EP.usa h s r fun v H' d s' rv e1 => by
      subst e1
      cases rv with
      | @tup a xs _ hh t =>
        cases t with
        | @cons v1 _ vs _ r1 t =>
          obtain ⟨v2, v3, rfl, r2, r3⟩ := t.two
          exact ⟨a, _, rfl, SqT.of hh, rfl, v1, _, rfl, v2, _, rfl, v3, _, rfl, rfl, q.run _ H' (s.trans s') ((((r.mono s').set r1).set r2).set r3)⟩)
/-- a def's promise by a thing, its arguments but known in part -/
theorem ep_callX {α : Type} {tab : List Addr} {enc : α → List PyData} {ok : α → Prop} {out : α → PyData} {n : Nat} {Ψ : List PyData → Prop} {Φ : PyData → Prop} (hA : ∀ i, At (X i) P w K mg base k) (hf : Fn P w K mg base k x ps (spX tab enc ok out n)) (ha : EA X H0 ρ (e :: es) Ψ) (hp : ∀ ds, Ψ ds → ds.length = n ∧ ∃ a, ok a ∧ ds = enc a ∧ Φ (out a)) (ht : ∀ P ∈ tab, TabF H0 P := by intro _ h; cases h)
    (hg : ∀ i, Gl (X i) x := by intro _; rfl) (hdb : (x == ("__debug__" : Str)) = false := by decide) (he : ∀ i, starEach (e :: es) (X i).env = (false, eval e (X i).env) :: starEach es (X i).env := by intro _; rfl) (hpl : ∀ i, (backTo pos (starEach es (X i).env)).any (·.1) = false := by intro _; rfl) :
    EP X H0 ρ (.Call (.Name x p) (e :: es) [] pos) Φ := .mk fun σ H s r H1 Q s1 q =>
  ue_call (E := E0) hA hf pa_u (ha σ H s r H1 _ s1 fun vs H2 ds s2 rr f => by
    obtain ⟨hl, a, h, e1, f'⟩ := hp ds f
    subst e1
    exact ⟨by rw [rr.length]; exact hl, fun P hP => s2.tab _ (s1.tab _ (s.tab _ (ht P hP))), a, h, rr, fun v H3 s3 r3 => q v H3 _ (s2.trans s3) r3 f'⟩) hg hdb he hpl
end
end SW

set_option Elab.async false
set_option linter.all false
set_option maxRecDepth 100000
set_option maxHeartbeats 1000000
/-! Sk2i: _law_turn. -/
namespace SK
open PySem SW
open L2 hiding Same
local macro_rules | `(tactic| walk_at "v") => `(tactic| first | exact ev_var (fun _ => pv 0) rfl | exact ev_var (fun _ => pv 1) rfl | exact ev_var (fun _ => pv 2) rfl | exact ev_var (fun _ => pv 3) rfl | exact ev_var (fun _ => pv 4) rfl | exact ev_var (fun _ => pv 5) rfl | exact ev_var (fun _ => pv 6) rfl)
section
variable {P : Program} {w : World} {K : PySem.W.Frag} {mg : Str → Option Value} {base : Heap}
def intsN (o : List Nat) : List Int := o.map fun i => ((i : Nat) : Int)
theorem natsD_I (o : List Nat) : natsD o = (intsN o).map .int := by unfold natsD intsN; rw [List.map_map] <;> rfl
theorem natsV_I (o : List Nat) : natsV o = (intsN o).map .int := by unfold natsV intsN; rw [List.map_map] <;> rfl
theorem intsN_inj : ∀ {a b : List Nat}, intsN a = intsN b → a = b
  | [], [], _ => rfl
  | [], _ :: _, h => by cases h
  | _ :: _, [], h => by cases h
  | x :: a, y :: b, h => by
    have h : ((x : Int) :: intsN a) = (y : Int) :: intsN b := h
    injection h with h1 h2
    rw [intsN_inj h2, show x = y by omega]
theorem erase_nats : ∀ (l : List Nat) (j : Nat), (natsV l).eraseIdx j = natsV (l.eraseIdx j)
  | [], _ => rfl
  | _ :: _, 0 => rfl
  | x :: l, j + 1 => by
    show V.int (x : Int) :: (natsV l).eraseIdx j = V.int (x : Int) :: natsV (l.eraseIdx j)
    rw [erase_nats l j]
abbrev preTn : List PyData → Prop := fun ds => ∃ n : Nat, ds = [.int (n : Int)] ∧ n ≤ 13
abbrev postTn : List PyData → PyData → Prop := fun ds d => ∃ (n : Nat) (o : List Nat), ds = [.int (n : Int)] ∧ d = ordD o ∧ o.Perm (List.range n)
abbrev Gtn (P : Program) (w : World) (K : PySem.W.Frag) (mg : Str → Option Value) (base : Heap) : Prop := Fn P w K mg base 2 "_law_turn" ["row", "halls"] (spRow K preTn postTn 1)
end
end SK


set_option Elab.async false
set_option linter.all false
set_option maxRecDepth 100000
set_option maxHeartbeats 1000000
/-! Sk2j: _law_net. -/
namespace SK
open PySem SW
open L2 hiding Same
local macro_rules | `(tactic| walk_at "v") => `(tactic| first | exact ev_var (fun _ => pv 0) rfl | exact ev_var (fun _ => pv 1) rfl | exact ev_var (fun _ => pv 2) rfl | exact ev_var (fun _ => pv 3) rfl | exact ev_var (fun _ => pv 4) rfl | exact ev_var (fun _ => pv 5) rfl | exact ev_var (fun _ => pv 6) rfl)
section
variable {P : Program} {w : World} {K : PySem.W.Frag} {mg : Str → Option Value} {base : Heap}
/-- all ways that rise, of the first i halls -/
def fullR (n h : Nat) : Wy := ((List.range n).filter fun o => decide (o ≠ h)).map fun o => (h, o)
def fullW (n i : Nat) : Wy := (List.range i).flatMap (fullR n)
def ltN (a b : Nat × Nat) : Prop := a.1 < b.1 ∨ a.1 = b.1 ∧ a.2 < b.2
theorem fullR_mem {n h : Nat} {p : Nat × Nat} (hp : p ∈ fullR n h) : p.1 = h ∧ p.2 < n ∧ p.2 ≠ h := by
  obtain ⟨o, ho, rfl⟩ := List.mem_map.mp hp
  obtain ⟨h1, h2⟩ := List.mem_filter.mp ho
  exact ⟨rfl, List.mem_range.mp h1, of_decide_eq_true h2⟩
theorem fullW_pw (n i : Nat) : (fullW n i).Pairwise ltN := by
  unfold fullW
  rw [List.pairwise_flatMap]
  refine ⟨fun h _ => ?_, List.pairwise_lt_range.imp fun {a b} lt x hx y hy => ?_⟩
  · unfold fullR
    rw [List.pairwise_map]
    exact (List.pairwise_lt_range.sublist List.filter_sublist).imp fun lt => .inr ⟨rfl, lt⟩
  · rw [← (fullR_mem hx).1, ← (fullR_mem hy).1] at lt
    exact .inl lt
theorem fullW_len (n : Nat) : ∀ i, (fullW n i).length ≤ i * n
  | 0 => Nat.zero_le _
  | i + 1 => by
    have := fullW_len n i
    have e : (fullR n i).length ≤ n := by
      unfold fullR
      rw [List.length_map]
      exact Nat.le_trans (List.length_filter_le _ _) (by rw [List.length_range]; exact Nat.le_refl _)
    unfold fullW at this ⊢
    rw [List.range_succ, List.flatMap_append, List.length_append, Nat.succ_mul]
    simp only [List.flatMap_cons, List.flatMap_nil, List.append_nil]
    omega
theorem fullW_succ (n i : Nat) : fullW n (i + 1) = fullW n i ++ fullR n i := by
  unfold fullW
  rw [List.range_succ, List.flatMap_append]
  simp
theorem fullW_mem {n i : Nat} {p : Nat × Nat} (hp : p ∈ fullW n i) : p.1 < i ∧ p.2 < n ∧ p.1 ≠ p.2 := by
  obtain ⟨h, hh, hp⟩ := List.mem_flatMap.mp hp
  obtain ⟨e, lt, ne⟩ := fullR_mem hp
  exact ⟨by rw [e]; exact List.mem_range.mp hh, lt, by rw [e]; exact ne.symm⟩
theorem netV_pw {n : Nat} {ws : Wy} (h1 : 1 ≤ n) (h2 : n ≤ 13) (hw : ∀ p ∈ ws, p.1 < n ∧ p.2 < n ∧ p.1 ≠ p.2) (pw : ws.Pairwise ltN) (hl : ws.length ≤ 900) : NetV n ws :=
  { lo := h1, hi := h2, way := hw, len := hl
    srt := by
      unfold wayI
      rw [List.pairwise_map]
      refine pw.imp fun {a b} lt => ?_
      unfold leP
      simp only [Bool.or_eq_true, Bool.and_eq_true, decide_eq_true_eq]
      rcases lt with lt | ⟨e, lt⟩
      · exact .inl (by omega)
      · exact .inr ⟨by omega, by omega⟩
    nd := pw.imp fun {a b} lt e => by
      subst e
      rcases lt with lt | ⟨e, lt⟩ <;> omega }
theorem netV_sub {n : Nat} {ws : Wy} (h1 : 1 ≤ n) (h2 : n ≤ 13) (hs : ws.Sublist (fullW n n)) : NetV n ws :=
  netV_pw h1 h2 (fun p hp => fullW_mem (hs.mem hp)) ((fullW_pw n n).sublist hs) (by
    have := hs.length_le
    have := fullW_len n n
    have : n * n ≤ 13 * 13 := Nat.mul_le_mul h2 h2
    omega)
theorem sc_law_net : FnScope ["row", "most", "halls", "found", "hall", "other"] ["row", "most"] (defScope s_law_net) := ⟨rfl, rfl, rfl, by decide +kernel, rfl, by decide +kernel, by decide +kernel⟩
abbrev preNt : List PyData → Prop := fun ds => ∃ m : Nat, ds = [.int (m : Int)] ∧ 1 ≤ m ∧ m ≤ 13
abbrev postNt : List PyData → PyData → Prop := fun ds d => ∃ (m n : Nat) (ws : Wy), ds = [.int (m : Int)] ∧ d = netN n ws ∧ NetV n ws ∧ n ≤ m
abbrev Gnt (P : Program) (w : World) (K : PySem.W.Frag) (mg : Str → Option Value) (base : Heap) : Prop := Fn P w K mg base 2 "_law_net" ["row", "most"] (spRow K preNt postNt 1)
theorem sub_ways {l : List PyData} {ns : Wy} (h : l.Sublist (ns.map fun p => pairI ((p.1 : Int), (p.2 : Int)))) : ∃ ms : Wy, l = wyD ms ∧ ms.Sublist ns := by
  obtain ⟨ms, hm, rfl⟩ := List.sublist_map_iff.mp h
  exact ⟨ms, rfl, hm⟩
def neF (h : Nat) : PyData → Bool
  | .int o => decide (o ≠ (h : Int))
  | _ => false
theorem full_fm (n h : Nat) : (((List.range n).map fun (i : Nat) => PyData.int (i : Int)).filter (neF h)).map (fun d => PyData.tuple [.int (h : Int), d]) = (fullR n h).map fun p => pairI ((p.1 : Int), (p.2 : Int)) := by
  unfold fullR
  rw [List.filter_map, List.map_map, List.map_map]
  have e : (neF h ∘ fun (i : Nat) => PyData.int (i : Int)) = fun o => decide (o ≠ h) := funext fun o => by
    show decide ((o : Int) ≠ (h : Int)) = _
    exact decide_eq_decide.mpr (by omega)
  rw [e] <;> rfl
theorem fn_law_net (T : Tx K mg) (g : Gtk P w K mg base) : Gnt P w K mg base := by
  refine Df.fnRow T.d_law_net sc_law_net rfl fun f cdv A outer s H1 H0 Q ds r hA S hr hl hp q => ?_
  obtain ⟨m, rfl, m1, m2⟩ := hp
  refine ws_par (i := 2) (j := 3) hA (ep_add ev_int.int (ep_take hA g hr (fun _ => pv 0) rfl (by walk_at "v") ⟨by omega, by omega⟩)) (ev_lst ea_nil) S fun d d' e e' => ?_
  subst e'
  obtain ⟨n1, n2, rfl, rfl, k1, k2⟩ := e
  obtain ⟨n, en⟩ : ∃ n : Nat, (n : Int) = 1 + n2 := ⟨(1 + n2).toNat, by omega⟩
  rw [← en]
  have hb : 1 ≤ n ∧ n ≤ m := by omega
  refine ws_for hA (ei_rng1 hA T.b_range (by walk_at "v") ⟨by omega, by omega⟩) (g := gName 4) (fun i => pg_name S.nd rfl (by first | exact Or.inl rfl | exact Or.inr rfl) (by first | exact Or.inl rfl | exact Or.inr rfl))
    (fun i ρ' => ∃ (ws : Wy) (o4 : Option SD), ρ' = [some (.raw (.ref r)), some (.dat (.int (m : Int))), some (.dat (.int (n : Int))), some (.dat (.list (wyD ws))), o4, none] ∧ ws.Sublist (fullW n i)) ⟨[], none, rfl, List.Sublist.refl _⟩ ?_ ?_ (fun _ => PassesOwn.never)
  · rintro i d ρ' H2 hd ⟨ws, o4, rfl, sub⟩ s2
    rw [show ((n : Int)).toNat = n from rfl, rg0, List.getElem?_map] at hd
    obtain ⟨h, hh, rfl⟩ := Option.map_eq_some_iff.mp hd
    obtain ⟨lt, eh⟩ := List.getElem?_eq_some_iff.mp hh
    rw [List.length_range] at lt
    rw [List.getElem_range] at eh
    subst eh
    have hl : (wyD ws).length ≤ 169 := by
      unfold wyD
      rw [List.length_map]
      have := sub.length_le
      have := fullW_len n i
      have : i * n ≤ 13 * 13 := Nat.mul_le_mul (by omega) (by omega)
      omega
    refine ⟨_, tgr_name.to0, fun N hN => ?_⟩
    refine ws_set (i := 3) (ep_cat (Φ := fun xs => xs = wyD ws) (Ψ := fun l => l.Sublist ((fullR n i).map fun p => pairI ((p.1 : Int), (p.2 : Int)))) (EP.mono (by walk_at "v" : EV _ _ _ _ (PyData.list (wyD ws))) fun d e => ⟨_, e, rfl⟩) (EP.mono (ep_lcSub (i := 5) hA S (ei_rng1 hA T.b_range (by walk_at "v") ⟨by omega, by omega⟩) (neF i) (fun d => PyData.tuple [.int (i : Int), d]) fun d hd => ?_) fun d z => ?_) ?_) S fun d e => ?_
    · rw [show ((n : Int)).toNat = n from rfl, rg0] at hd
      obtain ⟨o, ho, rfl⟩ := List.mem_map.mp hd
      refine ⟨et_w (ew_and (Φ := fun b => b = !decide ((o : Int) = (i : Int))) (Ψ := fun _ => True) (eb_neI (by walk_at "v") (by walk_at "v")) (fun _ => ew_and1 (et_eqAny (ep_take (at_blk hA) g (hr.mono s2) (fun _ => pv 0) rfl ev_int ⟨by decide, by decide⟩) ev_int.int)) (fun _ z => by cases z) fun k z _ _ => ?_), ev_tup (el2 (by walk_at "v") (by walk_at "v"))⟩
      show decide ((o : Int) ≠ (i : Int)) = true
      have z' : (!decide ((o : Int) = (i : Int))) = true := z.symm
      simpa using z'
    · obtain ⟨l, e1, e2⟩ := z
      rw [show ((n : Int)).toNat = n from rfl, rg0, full_fm] at e2
      exact ⟨l, e1, e2⟩
    · intro xs ys e1 e2
      subst e1
      have z := e2.length_le
      rw [List.length_map] at z
      have e : (fullR n i).length ≤ n := by
        unfold fullR
        rw [List.length_map]
        exact Nat.le_trans (List.length_filter_le _ _) (by rw [List.length_range]; exact Nat.le_refl _)
      exact Nat.le_of_lt (small1000 (by omega))
    · obtain ⟨xs, ys, rfl, rfl, hy⟩ := e
      obtain ⟨ms, rfl, hm⟩ := sub_ways hy
      refine ws_nil fun σ H s3 r3 => hN _ σ H ⟨ws ++ ms, some (.dat (.int (i : Int))), ?_, by rw [fullW_succ]; exact sub.append hm⟩ s3 r3
      unfold wyD
      rw [List.map_append] <;> rfl
  · rintro ρ' ⟨ws, o4, rfl, sub⟩
    rw [show (rgD 0 ((n : Int)).toNat).length = n from by rw [show ((n : Int)).toNat = n from rfl, rg0, List.length_map, List.length_range]] at sub
    exact ws_ret (ev_tup (el2 (by walk_at "v") (ev_tupleOf hA T.b_tuple (by walk_at "v")))) fun v H d s r e => q v H d s r ⟨m, n, ws, rfl, e, netV_sub hb.1 (by omega) sub, hb.2⟩
end
end SK


set_option Elab.async false
set_option linter.all false
set_option maxRecDepth 100000
set_option maxHeartbeats 1000000
/-! Sk2k: _law_called, _law_mixed, _law_leads. -/
namespace SK
open PySem SW
open L2 hiding Same
local macro_rules | `(tactic| walk_at "v") => `(tactic| first | exact ev_var (fun _ => pv 0) rfl | exact ev_var (fun _ => pv 1) rfl | exact ev_var (fun _ => pv 2) rfl | exact ev_var (fun _ => pv 3) rfl | exact ev_var (fun _ => pv 4) rfl | exact ev_var (fun _ => pv 5) rfl | exact ev_var (fun _ => pv 6) rfl)
section
variable {P : Program} {w : World} {K : PySem.W.Frag} {mg : Str → Option Value} {base : Heap}
/-- pairs of ints as ways -/
def toW (l : List (Int × Int)) : Wy := l.map fun p => (p.1.toNat, p.2.toNat)
theorem wayI_toW : ∀ {l : List (Int × Int)}, (∀ p ∈ l, 0 ≤ p.1 ∧ 0 ≤ p.2) → wayI (toW l) = l
  | [], _ => rfl
  | p :: l, h => by
    obtain ⟨h1, h2⟩ := h p List.mem_cons_self
    show (((p.1.toNat : Nat) : Int), ((p.2.toNat : Nat) : Int)) :: wayI (toW l) = p :: l
    rw [wayI_toW fun q hq => h q (List.mem_cons_of_mem _ hq), Int.toNat_of_nonneg h1, Int.toNat_of_nonneg h2]
theorem netV_of {n : Nat} {l : List (Int × Int)} (h1 : 1 ≤ n) (h2 : n ≤ 13) (hm : ∀ p ∈ l, (0 ≤ p.1 ∧ p.1 < n) ∧ (0 ≤ p.2 ∧ p.2 < n) ∧ p.1 ≠ p.2) (hs : l.Pairwise (fun a b => leP a b = true)) (nd : l.Nodup) (hl : l.length ≤ 900) : NetV n (toW l) :=
  { lo := h1, hi := h2, len := by unfold toW; rw [List.length_map]; exact hl
    way := fun p hp => by
      obtain ⟨q, hq, rfl⟩ := List.mem_map.mp hp
      obtain ⟨⟨a1, a2⟩, ⟨b1, b2⟩, ne⟩ := hm q hq
      exact ⟨by omega, by omega, by omega⟩
    srt := by rw [wayI_toW fun p hp => ⟨(hm p hp).1.1, (hm p hp).2.1.1⟩]; exact hs
    nd := by
      refine List.pairwise_map.mpr (nd.imp_of_mem fun {a b} ha hb ne e => ne ?_)
      have e1 : a.1.toNat = b.1.toNat := congrArg Prod.fst e
      have e2 : a.2.toNat = b.2.toNat := congrArg Prod.snd e
      have := hm a ha
      have := hm b hb
      exact Prod.ext (by omega) (by omega) }
theorem ord_lt {n : Nat} {o : List Nat} (ho : o.Perm (List.range n)) {i : Nat} (h : i < n) : o.getD i 0 < n := by
  have lt : i < o.length := by rw [ho.length_eq, List.length_range]; exact h
  rw [List.getD_eq_getElem?_getD, List.getElem?_eq_getElem lt]
  exact List.mem_range.mp (ho.mem_iff.mp (List.getElem_mem lt))
theorem ord_inj {n : Nat} {o : List Nat} (ho : o.Perm (List.range n)) {i j : Nat} (hi : i < n) (hj : j < n) (e : o.getD i 0 = o.getD j 0) : i = j := by
  have li : i < o.length := by rw [ho.length_eq, List.length_range]; exact hi
  have lj : j < o.length := by rw [ho.length_eq, List.length_range]; exact hj
  rw [List.getD_eq_getElem?_getD, List.getD_eq_getElem?_getD, List.getElem?_eq_getElem li, List.getElem?_eq_getElem lj] at e
  exact (List.getElem_inj (ho.nodup_iff.mpr List.nodup_range)).mp e
theorem ledW_V {n : Nat} {o : List Nat} {ws : Wy} (h : NetV n ws) (ho : o.Perm (List.range n)) : NetV n (toW (ledW o ws)) ∧ wayI (toW (ledW o ws)) = ledW o ws := by
  have pm : (ledW o ws).Perm (ledL o ws) := isort_perm leP _
  have hm : ∀ p ∈ ledW o ws, (0 ≤ p.1 ∧ p.1 < n) ∧ (0 ≤ p.2 ∧ p.2 < n) ∧ p.1 ≠ p.2 := fun p hp => by
    obtain ⟨q, hq, rfl⟩ := List.mem_map.mp (pm.mem_iff.mp hp)
    obtain ⟨a, b, ne⟩ := h.way q hq
    have := ord_lt ho a
    have := ord_lt ho b
    refine ⟨⟨by omega, by omega⟩, ⟨by omega, by omega⟩, fun e => ne (ord_inj ho a b ?_)⟩
    have e : ((o.getD q.1 0 : Nat) : Int) = ((o.getD q.2 0 : Nat) : Int) := e
    omega
  refine ⟨netV_of h.lo h.hi hm (isort_sorted ordP fun _ _ => trivial) (pm.nodup_iff.mpr ?_) ?_, wayI_toW fun p hp => ⟨(hm p hp).1.1, (hm p hp).2.1.1⟩⟩
  · refine List.pairwise_map.mpr (h.nd.imp_of_mem fun {a b} ha hb ne e => ne ?_)
    obtain ⟨a1, a2, _⟩ := h.way a ha
    obtain ⟨b1, b2, _⟩ := h.way b hb
    have e1 : ((o.getD a.1 0 : Nat) : Int) = ((o.getD b.1 0 : Nat) : Int) := congrArg Prod.fst e
    have e2 : ((o.getD a.2 0 : Nat) : Int) = ((o.getD b.2 0 : Nat) : Int) := congrArg Prod.snd e
    exact Prod.ext (ord_inj ho a1 b1 (by omega)) (ord_inj ho a2 b2 (by omega))
  · rw [pm.length_eq]
    unfold ledL
    rw [List.length_map]
    exact h.len
abbrev Gcl (P : Program) (w : World) (K : PySem.W.Frag) (mg : Str → Option Value) (base : Heap) : Prop := Fn P w K mg base 1 "_law_called" ["net", "names"]
  (spX [] (fun x : Nat × Wy × List Nat => [netN x.1 x.2.1, ordD x.2.2]) (fun x => NetOk x.1 x.2.1 ∧ x.2.2.length = x.1) (fun x => netI x.1 (ledW x.2.2 x.2.1)) 2)
/-! ### _law_leads -/
abbrev Gld (P : Program) (w : World) (K : PySem.W.Frag) (mg : Str → Option Value) (base : Heap) : Prop := Fn P w K mg base 1 "_law_leads" ["one", "other", "row"]
  (spX [] (fun x : Nat × Wy × Wy × List Nat => [netN x.1 x.2.1, netN x.1 x.2.2.1, ordD x.2.2.2]) (fun x => NetOk x.1 x.2.1 ∧ x.2.2.2.length = x.1) (fun x => .bool (decide (ledW x.2.2.2 x.2.1 = wayI x.2.2.1))) 3)
theorem shp_prs (l : List (Int × Int)) : Shp (.list (l.map pairI)) := by
  have e1 : (PyData.list (l.map pairI)).canLay0 = true := canLay_prs l
  have e2 : (PyData.list (l.map pairI)).depth ≤ 64 := by
    have := depth_prs l
    simp only [PyData.depth]
    omega
  show (_ && _) = true
  rw [e1, decide_eq_true e2]; rfl
/-! ### _law_mixed -/
theorem wayL_V {h : Int} {st : List Int} (W : WebOk h st) : NetV h.toNat (toW (wayL h st)) ∧ wayI (toW (wayL h st)) = wayL h st := by
  have hh := W.1
  have pm := isort_perm leP (wayR h st h.toNat)
  have hm : ∀ p ∈ wayL h st, (0 ≤ p.1 ∧ p.1 < h.toNat) ∧ (0 ≤ p.2 ∧ p.2 < h.toNat) ∧ p.1 ≠ p.2 := fun p hp => by
    obtain ⟨⟨a1, a2⟩, ⟨b1, b2⟩, ne⟩ := wayR_mem W (pm.mem_iff.mp hp)
    exact ⟨⟨a1, by omega⟩, ⟨b1, by omega⟩, ne⟩
  refine ⟨netV_of (by omega) (by omega) hm (isort_sorted ordP fun _ _ => trivial) (pm.nodup_iff.mpr (wayR_nodup W)) ?_, wayI_toW fun p hp => ⟨(hm p hp).1.1, (hm p hp).2.1.1⟩⟩
  have := wayR_len (h := h) (web_len W) h.toNat
  show (isort leP (wayR h st h.toNat)).length ≤ 900
  rw [pm.length_eq]
  omega
abbrev preMx : List PyData → Prop := fun ds => ∃ (h : Int) (st : List Int), ds = [web h st] ∧ WebOk h st
abbrev postMx : List PyData → PyData → Prop := fun ds d => ∃ (h : Int) (st : List Int) (n : Nat) (ws : Wy), ds = [web h st] ∧ (n : Int) = h ∧ d = netN n ws ∧ NetV n ws
abbrev Gmx (P : Program) (w : World) (K : PySem.W.Frag) (mg : Str → Option Value) (base : Heap) : Prop := Fn P w K mg base 3 "_law_mixed" ["row", "web"] (spRow K preMx postMx 1)
end
end SK


set_option Elab.async false
set_option linter.all false
set_option maxRecDepth 100000
set_option maxHeartbeats 1000000
namespace SK
open PySem SW
open L2 hiding Same
local macro_rules | `(tactic| walk_at "v") => `(tactic| first | exact ev_var (fun _ => pv 0) rfl | exact ev_var (fun _ => pv 1) rfl | exact ev_var (fun _ => pv 2) rfl | exact ev_var (fun _ => pv 3) rfl | exact ev_var (fun _ => pv 4) rfl | exact ev_var (fun _ => pv 5) rfl | exact ev_var (fun _ => pv 6) rfl)
section
variable {P : Program} {w : World} {K : PySem.W.Frag} {mg : Str → Option Value} {base : Heap}
/-! ### times -/
def f_times : List PyData → Option PyData
  | [.tuple [.int h, .tuple xs], .int f] => if wrongWeb (.tuple [.int h, .tuple xs]) = "" ∧ xs.all isIntD = true ∧ f ∈ facs h then some (web h (multSt h (xs.map intOf) f)) else none
  | _ => none
theorem sc_times : FnScope ["web", "factor"] ["web", "factor"] (defScope s_times) := ⟨rfl, rfl, rfl, by decide +kernel, rfl, by decide +kernel, by decide +kernel⟩
abbrev preTm : List PyData → Prop := fun ds => ∃ h st f, ds = [web h st, .int f] ∧ WebOk h st ∧ f ∈ facs h
abbrev postTm : List PyData → PyData → Prop := fun ds d => ∃ h st f, ds = [web h st, .int f] ∧ d = web h (multSt h st f)
theorem facs_gcd {h f : Int} (hf : f ∈ facs h) : ((Nat.gcd f.natAbs h.natAbs : Nat) : Int) = 1 := of_decide_eq_true (List.mem_filter.mp hf).2
theorem fn_times (T : Tx K mg) (g1 : Gchk P w K mg base) (g2 : Gmul P w K mg base) (g3 : Gnum P w K mg base) : Fn P w K mg base 5 "times" ["web", "factor"] (spF preTm postTm 2) := by
  refine T.d_times.fn sc_times (fun vs H Q E h => h.1) (fun vs H Q E h => h) fun f cdv A outer s H1 H vs Q hA hs => ?_
  obtain ⟨hl, ds, ra, ⟨hh, ss, fa, rfl, W, hf⟩, q⟩ := hs
  have S : Sc (bdF P w K mg base ["web", "factor"] "times" (defScope s_times) f cdv A outer s H1) ["web", "factor"] (defScope s_times) := ⟨sc_times.nd, fun _ => rfl, fun _ => rfl⟩
  have r0 := ra.start 0
  have e1 : L2.start ["web", "factor"] vs = vs.map some ++ List.replicate 0 none := by
    show vs.map some ++ List.replicate (2 - vs.length) none = _
    rw [hl]
  rw [e1]
  obtain ⟨⟨b1, b2⟩, _⟩ := fac_of W.1.1 W.1.2 hf
  have WW : WS (bdF P w K mg base ["web", "factor"] "times" (defScope s_times) f cdv A outer s H1) H [some (SD.dat (web hh ss)), some (SD.dat (.int fa))] (defBody s_times) { nx := fun _ H' => Q .non H', rt := Q } := by
    refine ws_expr (ev_call hA g1 (el1 (by walk_at "v")) (f_chk_web W)) ?_
    refine ws_no (EB.to (et_w (eb_or (p := false) (q := false) (EB.to (eb_not (eb_val (ev_call hA (g3.up (by decide)) (el3 (by walk_at "v") ev_int (ev_sub (ev_ixT hA (ds := [.int hh, .tuple (ss.map .int)]) (by walk_at "v") ev_int rfl) ev_int)) (by rfl)))) (by simp [isNum, b1, b2])) fun _ => ew_or1 (EB.to (eb_neI (ev_gcd hA T.b_gcd (by walk_at "v") (ev_ixT hA (ds := [.int hh, .tuple (ss.map .int)]) (by walk_at "v") ev_int rfl)) ev_int) (by rw [facs_gcd hf]; simp)))) rfl) ?_
    exact ws_ret (ev_call hA (g2.up (by decide)) (el2 (d1 := web hh ss) (by walk_at "v") (by walk_at "v")) (f_mult_web (by have := W.1; omega) (by omega) (by have := W.1; omega))) fun v H' d s' rv e => q v H' d s' rv ⟨hh, ss, fa, rfl, e⟩
  exact WW.run _ H (Same.refl H) r0
/-! ### multiples: what is promised (shown in its own file) -/
abbrev preW : List PyData → Prop := fun ds => ∃ h st, ds = [web h st] ∧ WebOk h st
abbrev postMs : List PyData → PyData → Prop := fun ds d => ∃ h st L, ds = [web h st] ∧ d = .tuple (L.map (web h)) ∧ SrtSet L (muls h st)
abbrev Gms (P : Program) (w : World) (K : PySem.W.Frag) (mg : Str → Option Value) (base : Heap) : Prop := Fn P w K mg base 6 "multiples" ["web"] (spF preW postMs 1)
abbrev postLm : List PyData → PyData → Prop := fun ds d => ∃ h st a L, ds = [web h st] ∧ d = web h a ∧ SrtSet (a :: L) (muls h st)
theorem sc_least_multiple : FnScope ["web"] ["web"] (defScope s_least_multiple) := ⟨rfl, rfl, rfl, by decide +kernel, rfl, by decide +kernel, by decide +kernel⟩
theorem one_fac {h : Int} (h1 : 2 ≤ h) (h2 : h ≤ 13) : (1 : Int) ∈ facs h := by
  refine List.mem_filter.mpr ⟨List.mem_map.mpr ⟨0, List.mem_range.mpr (by omega), rfl⟩, decide_eq_true ?_⟩
  show ((Nat.gcd 1 h.natAbs : Nat) : Int) = 1
  rw [Nat.gcd_one_left] <;> rfl
theorem muls_ne {h : Int} {st : List Int} (W : WebOk h st) : muls h st ≠ [] := by
  have q : multSt h st 1 ∈ muls h st := List.mem_map.mpr ⟨1, one_fac W.1.1 W.1.2, rfl⟩
  intro e
  rw [e] at q
  cases q
theorem srt_ne {h : Int} {st : List Int} (W : WebOk h st) {L : List (List Int)} (hL : SrtSet L (muls h st)) : ∃ a M, L = a :: M := by
  cases L with
  | nil =>
    have q := muls_ne W
    cases e : muls h st with
    | nil => exact absurd e q
    | cons x l =>
      have := (hL.mem x).mpr (by rw [e]; exact List.mem_cons_self)
      cases this
  | cons a M => exact ⟨a, M, rfl⟩
/-- an expression's value that is one of a kind -/
theorem ep_ixT0 {I : Type} {X : I → Cx} {H0 : Hp} {ρ : Env1} {a b : Expr} {pos : Pos} {k : Nat} {Φ : List PyData → Prop} {Θ : PyData → Prop} (hA : ∀ i, At (X i) P w K mg base k) (ha : EP X H0 ρ a (fun d => ∃ ds, d = .tuple ds ∧ Φ ds)) (hb : EV X H0 ρ b (.int 0)) (h : ∀ ds, Φ ds → ∃ d r, ds = d :: r ∧ Θ d) (hp : PlainIx b := by exact fun _ _ => rfl) : EP X H0 ρ (.Subscript a b pos) Θ := .mk fun σ H s rs H1 Q s1 q =>
  ⟨_, fun j => pe_ix ((hA j).K ▸ ix_tup) (pe_u j) (pe_u j) hp, ha σ H s rs H1 _ s1 fun v H2 x s2 r2 e2 => hb σ H s rs H2 _ (s1.trans s2) fun w' H3 y s3 r3 e3 => by
    obtain ⟨ds, rfl, f⟩ := e2
    subst e3
    obtain ⟨d, r, rfl, t⟩ := h ds f
    cases r3
    cases r2 with
    | tup hh tt =>
      cases tt with
      | cons hv tr => exact ⟨_, _, 0, _, rfl, rfl, SqT.of (s3 _ _ hh), atI_nat (j := 0) rfl, q _ H3 d (s2.trans s3) (hv.mono s3) t⟩⟩
theorem fn_least_multiple (T : Tx K mg) (g : Gms P w K mg base) : Fn P w K mg base 7 "least_multiple" ["web"] (spF preW postLm 1) := by
  refine T.d_least_multiple.fn sc_least_multiple (fun vs H Q E h => h.1) (fun vs H Q E h => h) fun f cdv A outer s H1 H vs Q hA hs => ?_
  obtain ⟨hl, ds, ra, ⟨hh, ss, rfl, W⟩, q⟩ := hs
  have r0 := ra.start 0
  have e1 : L2.start ["web"] vs = vs.map some ++ List.replicate 0 none := by
    show vs.map some ++ List.replicate (1 - vs.length) none = _
    rw [hl]
  rw [e1]
  have WW : WS (bdF P w K mg base ["web"] "least_multiple" (defScope s_least_multiple) f cdv A outer s H1) H [some (SD.dat (web hh ss))] (defBody s_least_multiple) { nx := fun _ H' => Q .non H', rt := Q } := by
    refine ws_ret (Φ := fun d => ∃ a L, d = web hh a ∧ SrtSet (a :: L) (muls hh ss)) (ep_ixT0 hA (Φ := fun ds => ∃ L, ds = L.map (web hh) ∧ SrtSet L (muls hh ss)) (ep_call hA g (el1 (by walk_at "v")) fun ds e1 => ?_) ev_int fun ds ⟨L, e1, hL⟩ => ?_) fun v H' d s' rv ⟨a, L, e2, hL⟩ => q v H' d s' rv ⟨hh, ss, a, L, rfl, e2, hL⟩
    · subst e1
      refine ⟨rfl, ⟨hh, ss, rfl, W⟩, fun d ⟨h', s', L, e2, e3, hL⟩ => ?_⟩
      obtain ⟨rfl, rfl⟩ := web_inj (List.head_eq_of_cons_eq e2)
      exact ⟨_, e3, L, rfl, hL⟩
    · obtain ⟨a, M, rfl⟩ := srt_ne W hL
      exact ⟨web hh a, M.map (web hh), e1, a, M, rfl, hL⟩
  exact WW.run _ H (Same.refl H) r0
theorem sc_are_multiples : FnScope ["one", "other"] ["one", "other"] (defScope s_are_multiples) := ⟨rfl, rfl, rfl, by decide +kernel, rfl, by decide +kernel, by decide +kernel⟩
abbrev preAm : List PyData → Prop := fun ds => ∃ h st ss, ds = [web h st, web h ss] ∧ WebOk h st ∧ WebOk h ss
abbrev postAm : List PyData → PyData → Prop := fun ds d => ∃ h st ss, ds = [web h st, web h ss] ∧ d = .bool (decide (ss ∈ muls h st))
theorem ep_inDT {I : Type} {X : I → Cx} {H0 : Hp} {ρ : Env1} {a b : Expr} {pos : Pos} {k : Nat} {d : PyData} {Φ : List PyData → Prop} {Θ : PyData → Prop} (hA : ∀ i, At (X i) P w K mg base (k + 1)) (ha : EV X H0 ρ a d) (hb : EP X H0 ρ b (fun x => ∃ ds, x = .tuple ds ∧ Φ ds)) (h1 : Shp d) (h2 : ∀ ds, Φ ds → Shp (.tuple ds) ∧ Θ (.bool (ds.any fun z => PyData.eqv z d))) (hm : behindInMarks .In b = false := by rfl) : EP X H0 ρ (.Compare a [.In] [b] pos) Θ := .mk fun σ H s rs H1 Q s1 q =>
  ⟨_, fun i => pe_cmpR (r := rInDT K) ((hA i).K ▸ op_inDT (hA i).hu5) (pe_u i) (pe_u i) hm, ha σ H s rs H1 _ s1 fun v H2 x s2 r2 e2 => hb σ H s rs H2 _ (s1.trans s2) fun w' H3 y s3 r3 e3 => by
    obtain ⟨ds, rfl, f⟩ := e3
    subst e2
    exact ⟨_, ds, (r2.mono s3).dp (SeqAt.canLay_of_shaped h1), r3.dp (SeqAt.canLay_of_shaped (h2 ds f).1), h1, (h2 ds f).1, q _ H3 _ (s2.trans s3) (.bl _) (h2 ds f).2⟩⟩
theorem fn_are_multiples (T : Tx K mg) (g1 : Gchk P w K mg base) (g : Gms P w K mg base) : Fn P w K mg base 7 "are_multiples" ["one", "other"] (spF preAm postAm 2) := by
  refine T.d_are_multiples.fn sc_are_multiples (fun vs H Q E h => h.1) (fun vs H Q E h => h) fun f cdv A outer s H1 H vs Q hA hs => ?_
  obtain ⟨hl, ds, ra, ⟨hh, ss, st, rfl, W, W2⟩, q⟩ := hs
  have r0 := ra.start 0
  have e1 : L2.start ["one", "other"] vs = vs.map some ++ List.replicate 0 none := by
    show vs.map some ++ List.replicate (2 - vs.length) none = _
    rw [hl]
  rw [e1]
  have WW : WS (bdF P w K mg base ["one", "other"] "are_multiples" (defScope s_are_multiples) f cdv A outer s H1) H [some (SD.dat (web hh ss)), some (SD.dat (web hh st))] (defBody s_are_multiples) { nx := fun _ H' => Q .non H', rt := Q } := by
    refine ws_expr (ev_call hA (g1.up (by decide)) (el1 (by walk_at "v")) (f_chk_web W)) ?_
    refine ws_expr (ev_call hA (g1.up (by decide)) (el1 (d1 := web hh st) (ev_var (fun _ => pv 1) rfl)) (f_chk_web W2)) ?_
    refine ws_no (EB.to (eb_neI (ev_ixT hA (ds := [.int hh, .tuple (ss.map .int)]) (by walk_at "v") ev_int rfl) (ev_ixT hA (ds := [.int hh, .tuple (st.map .int)]) (ev_var (fun _ => pv 1) rfl) ev_int rfl)) (by simp)) ?_
    refine ws_ret (Φ := fun d => d = .bool (decide (st ∈ muls hh ss))) (ep_inDT hA (d := web hh st) (ev_var (fun _ => pv 1) rfl) (Φ := fun ds => ∃ L, ds = L.map (web hh) ∧ SrtSet L (muls hh ss)) (ep_call hA g (el1 (by walk_at "v")) fun ds e1 => ?_) (shp_web _ _) fun ds ⟨L, e1, hL⟩ => ?_) fun v H' d s' rv e2 => q v H' d s' rv ⟨hh, ss, st, rfl, e2⟩
    · subst e1
      refine ⟨rfl, ⟨hh, ss, rfl, W⟩, fun d ⟨h', s', L, e2, e3, hL⟩ => ?_⟩
      obtain ⟨rfl, rfl⟩ := web_inj (List.head_eq_of_cons_eq e2)
      exact ⟨_, e3, L, rfl, hL⟩
    · subst e1
      refine ⟨shp_websT _ _, ?_⟩
      rw [any_web]
      exact congrArg PyData.bool (decide_eq_decide.mpr (hL.mem st))
  exact WW.run _ H (Same.refl H) r0
end
end SK


set_option Elab.async false
set_option linter.all false
set_option maxRecDepth 100000
set_option maxHeartbeats 1000000
/-! Sk6a: keepers, count_plain, is_plain. -/
namespace SK
open PySem SW
open L2 hiding Same
local macro_rules | `(tactic| walk_at "v") => `(tactic| first | exact ev_var (fun _ => pv 0) rfl | exact ev_var (fun _ => pv 1) rfl | exact ev_var (fun _ => pv 2) rfl | exact ev_var (fun _ => pv 3) rfl)
section
variable {P : Program} {w : World} {K : PySem.W.Frag} {mg : Str → Option Value} {base : Heap}
def keepsL (h : Int) (st : List Int) : List Int := (facs h).filter fun f => decide (multSt h st f = st)
def FKp (h : Int) (st : List Int) : PyData := .tuple ((keepsL h st).map .int)
theorem keeps_len {h : Int} (h2 : h ≤ 13) (st : List Int) : (keepsL h st).length ≤ 12 := by
  unfold keepsL
  refine Nat.le_trans (List.length_filter_le _ _) ?_
  have q : (facs h).length ≤ (irng 1 (h - 1).toNat).length := List.length_filter_le ..
  unfold irng at q
  rw [List.length_map, List.length_range] at q
  omega
theorem ev_times {I : Type} {X : I → Cx} {H0 : Hp} {ρ : Env1} {a b : Expr} {p pos : Pos} {h : Int} {st : List Int} {f : Int} {k : Nat} (hA : ∀ i, At (X i) P w K mg base k) (g : Fn P w K mg base 5 "times" ["web", "factor"] (spF preTm postTm 2)) (hk : 5 ≤ k) (W : WebOk h st) (hf : f ∈ facs h) (ha : EV X H0 ρ a (web h st)) (hb : EV X H0 ρ b (.int f)) (hg : ∀ i, Gl (X i) "times" := by intro _; rfl)
    (hs1 : ∀ i, starEach [a, b] (X i).env = (false, eval a (X i).env) :: starEach [b] (X i).env := by intro _; rfl) (hs2 : ∀ i, starEach [b] (X i).env = (false, eval b (X i).env) :: starEach [] (X i).env := by intro _; rfl) (hpl : ∀ i, (backTo pos (starEach [b] (X i).env)).any (·.1) = false := by intro _; rfl) :
    EV X H0 ρ (.Call (.Name "times" p) [a, b] [] pos) (web h (multSt h st f)) :=
  ep_call hA (g.up hk) (el2 ha hb hs1 hs2) (fun ds e => by
    subst e
    refine ⟨rfl, ⟨h, st, f, rfl, W, hf⟩, fun d ⟨h', s', f', e2, e3⟩ => ?_⟩
    injection e2 with e4 e5
    injection e5 with e5 _
    obtain ⟨rfl, rfl⟩ := web_inj e4
    injection e5 with e5
    subst e5
    exact e3) hg (by decide) hs1 hpl
theorem sc_keepers : FnScope ["web", "factor"] ["web"] (defScope s_keepers) := ⟨rfl, rfl, rfl, by decide +kernel, rfl, by decide +kernel, by decide +kernel⟩
theorem fn_keepers (T : Tx K mg) (g1 : Gchk P w K mg base) (g2 : Fn P w K mg base 5 "times" ["web", "factor"] (spF preTm postTm 2)) (g3 : Fn P w K mg base 3 "factors" ["halls"] (spE f_factors 1)) : Fn P w K mg base 6 "keepers" ["web"] (spW FKp) := by
  refine Df.fnW T.d_keepers sc_keepers fun f cdv A outer s H1 H0 Q hh ss hA S W q => ?_
  have hw := W.1
  refine ws_expr (ev_call hA (g1.up (by decide)) (el1 (by walk_at "v")) (f_chk_web W)) ?_
  refine ws_ret (ev_tupleOf hA T.b_tuple (EV.to (ev_lcIf hA S (i := 1) (ei_tup (ds := (facs hh).map .int) hA (ev_call hA (g3.up (by decide)) (el1 (ev_ixT hA (ds := [.int hh, .tuple (ss.map .int)]) (by walk_at "v") ev_int rfl)) ?_)) (fun d => decide (multSt hh ss (intOf d) = ss)) (fun d => d) fun d hd => ?_) (d' := .list ((keepsL hh ss).map .int)) ?_)) q
  · exact if_pos (by rw [decide_eq_true hw.1, decide_eq_true hw.2] <;> rfl)
  · obtain ⟨n, hn, rfl⟩ := List.mem_map.mp hd
    refine ⟨EB.to (eb_eq (at_blk hA) (d1 := web hh (multSt hh ss n)) (d2 := web hh ss) (ev_times (at_blk hA) g2 (by decide) W hn (ev_var (fun _ => pv 0) rfl) (by walk_at "v")) (ev_var (fun _ => pv 0) rfl) (shp_web _ _) (shp_web _ _)) ?_, fun _ => by walk_at "v"⟩
    rw [eqv_web]
    exact decide_eq_decide.mpr ⟨fun z => z.2, fun z => ⟨rfl, z⟩⟩
  · unfold keepsL
    rw [List.map_id', List.filter_map] <;> rfl
def FCp (h : Int) (st : List Int) : PyData := .int (h * ((keepsL h st).length : Int))
theorem sc_count_plain : FnScope ["web"] ["web"] (defScope s_count_plain) := ⟨rfl, rfl, rfl, by decide +kernel, rfl, by decide +kernel, by decide +kernel⟩
theorem fn_count_plain (T : Tx K mg) (g1 : Gchk P w K mg base) (g2 : Fn P w K mg base 6 "keepers" ["web"] (spW FKp)) : Fn P w K mg base 7 "count_plain" ["web"] (spW FCp) := by
  refine Df.fnW T.d_count_plain sc_count_plain fun f cdv A outer s H1 H0 Q hh ss hA S W q => ?_
  have hw := W.1
  have l := keeps_len (h := hh) hw.2 ss
  refine ws_expr (ev_call hA (g1.up (by decide)) (el1 (by walk_at "v")) (f_chk_web W)) ?_
  refine ws_ret (EV.to (ev_mul (ev_ixT hA (ds := [.int hh, .tuple (ss.map .int)]) (by walk_at "v") ev_int rfl) (ev_lenT (ds := (keepsL hh ss).map .int) hA T.b_len (ev_callW (F := FKp) hA (g2.up (by decide)) W (by walk_at "v"))) ?_) ?_) q
  · refine .inl ⟨by omega, by omega⟩
  · rw [List.length_map] <;> rfl
def plainB (h : Int) (st : List Int) : Bool := decide (((csym h.toNat (toW (wayL h st)) : Nat) : Int) = h * ((keepsL h st).length : Int))
theorem net_web6 {h : Int} {st : List Int} (W : WebOk h st) : FNet h st = netN h.toNat (toW (wayL h st)) := by
  have hh := W.1
  rw [netN_I, (wayL_V W).2]
  unfold FNet FWays netI
  rw [show ((h.toNat : Nat) : Int) = h by omega]
theorem sc_is_plain : FnScope ["web"] ["web"] (defScope s_is_plain) := ⟨rfl, rfl, rfl, by decide +kernel, rfl, by decide +kernel, by decide +kernel⟩
abbrev Gip (P : Program) (w : World) (K : PySem.W.Frag) (mg : Str → Option Value) (base : Heap) (t : Addr) : Prop := Fn P w K mg base 19 "is_plain" ["web"]
  (spX [t] (fun x : Int × List Int => [web x.1 x.2]) (fun x => WebOk x.1 x.2) (fun x => .bool (plainB x.1 x.2)) 1)
theorem fn_is_plain (T : Tx K mg) {t : Addr} (g1 : Fn P w K mg base 6 "net_of" ["web"] (spW FNet)) (g2 : Gcs P w K mg base t) (g3 : Fn P w K mg base 7 "count_plain" ["web"] (spW FCp)) : Gip P w K mg base t := by
  refine T.d_is_plain.fnX sc_is_plain (fun _ _ => rfl) fun f cdv A outer s H1 H0 Q ⟨hh, ss⟩ hA S W ht q => ?_
  have W : WebOk hh ss := W
  exact ws_ret (ev_eqI (ev_callX hA (g2.up (by decide)) (hh.toNat, toW (wayL hh ss)) (wayL_V W).1 (el1 (EV.to (ev_callW (F := FNet) hA (g1.up (by decide)) W (by walk_at "v")) (net_web6 W))) (ht := ht)) (ev_callW (F := FCp) hA (g3.up (by decide)) W (by walk_at "v"))) q
end
end SK


set_option Elab.async false
set_option linter.all false
set_option maxRecDepth 100000
set_option maxHeartbeats 1000000
/-! Sk8a: BadWeb made; check_web where it raises: with the word for what is wrong. -/
namespace SK
open PySem SW
open L2 hiding Same
local macro_rules | `(tactic| walk_at "v") => `(tactic| first | exact ev_var (fun _ => pv 0) rfl | exact ev_var (fun _ => pv 1) rfl | exact ev_var (fun _ => pv 2) rfl)
section
variable {P : Program} {w : World} {K : PySem.W.Frag} {mg : Str → Option Value} {base : Heap}
/-- an error with the field part -/
def PartE (P : Program) (w : World) (K : PySem.W.Frag) (mg : Str → Option Value) (base : Heap) (x : Str) (C : Addr) : Prop := ExI P w K mg base x C (spI1 C "part") ∧ PySem.W.findIn K (.ref C) "part" = some none
theorem part_BadWeb (T : Tx K mg) : ∃ C, PartE P w K mg base "BadWeb" C := by
  obtain ⟨C, fI, fd, oex, xf, hm, h1, h2, F, b, hn⟩ := T.i_BadWeb
  have n1 := hn "part" List.mem_cons_self
  refine ⟨C, ⟨oex, xf, hm, fI, fd, ["self", "part"], h1, h2, ?_, b⟩, n1⟩
  exact fn_init1 F oex n1 (N := ["self", "part"]) ⟨rfl, rfl, rfl, by decide +kernel, rfl, by decide +kernel, by decide +kernel⟩ rfl (fun _ _ _ _ _ _ => pv 0) (fun _ _ _ _ _ _ => pv 1) (fun _ _ _ _ _ _ => rfl)
abbrev Rcw (P : Program) (w : World) (K : PySem.W.Frag) (mg : Str → Option Value) (base : Heap) (C : Addr) : Prop := FnX P w K mg base 4 "check_web" ["value"] (spRf (.ref C) (fun ds l => ∃ d, ds = [d] ∧ wrongWeb d ≠ "" ∧ l = ([((Str.ofString "part"), PyData.str (wrongWeb d))] : List (Str × PyData))) 1)
theorem fx_check_web (T : Tx K mg) {C : Addr} (I : PartE P w K mg base "BadWeb" C) (g : Fn P w K mg base 3 "wrong_in_web" ["value"] (spE f_wrong_in_web 1)) : Rcw P w K mg base C := by
  refine T.d_check_web.fnRf (N := ["value", "wrong"]) ⟨rfl, rfl, rfl, by decide +kernel, rfl, by decide +kernel, by decide +kernel⟩ fun f cdv A outer s H1 H0 Q E ds l hA S tk hp hl q => ?_
  obtain ⟨d, rfl, hne, rfl⟩ := hp
  refine ws_set (i := 1) (ev_call hA g (el1 (by walk_at "v")) (d := .str (wrongWeb d)) rfl) S fun x e => ?_
  subst e
  refine ws_ifr (b := true) (EB.to (eb_neS (by walk_at "v") ev_str) (by rw [decide_eq_false hne] <;> rfl)) (fun _ => ?_) fun e => by cases e
  exact ws_raiseI1 (k := 1) (fun i => (hA i).mono (by decide)) tk I.1 (by walk_at "v") fun σ H dd fs s r h1 h2 => q H dd fs s h1 h2
end
end SK


set_option Elab.async false
set_option linter.all false
set_option maxRecDepth 100000
set_option maxHeartbeats 2000000
/-! SwLc2: y = [.. for .. for ..] into a plain local. -/
namespace SW
open PySem
open L2 hiding Same
variable [Nm]
section
variable {I : Type} {X : I → Cx} {σ : St} {H H' : Hp} {tg e a b c : Expr} {es rest : List Expr} {pos : Pos}
variable {P : Program} {w : World} {K : PySem.W.Frag} {mg : Str → Option Value} {base : Heap} {k : Nat} {x : Str} {p : Pos} {ps : List Str} {D : Ends} {sts : List Stmt}
theorem lc2_sem {elt e1 : Expr} {scope : Scope} {y z : Str} {i j : Nat} {tp tq : Pos} {ds : List PyData} (hij : i ≠ j)
    (src : DI X σ H (.Name y tp) e ds) (es : PyData → List PyData) (f : PyData → PyData → PyData) (hz : (ds.flatMap fun d => (es d).map (f d)).length ≤ sizeLine)
    (step : ∀ d, d ∈ ds → ∀ H' v, Same H H' → Rp H' v d → DI (blkF X scope) ((wipe σ [i, j]).set i (some v)) H' (.Name z tq) e1 (es d) ∧ ∀ d', d' ∈ es d → ∀ H'' v', Same H' H'' → Rp H'' v' d' → DE (blkF X scope) ((((wipe σ [i, j]).set i (some v)).set j none).set j (some v')) H'' elt (f d d'))
    (H1 : Hp) (Q : VK) (s : Same H H1) (q : ∀ v H2 d, Same H1 H2 → Rp H2 v d → d = .list (ds.flatMap fun d => (es d).map (f d)) → Q v H2) :
    tLc2 (uI X (.Name y tp) e) (gName i) tYes (uI (blkF X scope) (.Name z tq) e1) (gName j) tYes (uE (blkF X scope) elt) ([(y, i), (z, j)].map (·.2)) [j] σ H1 Q := by
  refine src H1 _ s fun J H2 s2 yl hlen D hD => ?_
  refine ⟨fun n m H' => m = ds.length - n ∧ n ≤ ds.length ∧ ∃ vs, H' D = some (.lst vs) ∧ RpA (upd H' D (.ext (Lph D vs))) vs ((ds.take n).flatMap fun d => (es d).map (f d)) ∧ Same H2 H', ⟨ds.length, by simp, Nat.zero_le _, [], upd_same, .nil, same_upd hD⟩, ?_⟩
  rintro n m H3 ⟨rfl, hn, vs, hD3, ra, s3⟩
  obtain ⟨y1, y2⟩ := yl H3 (same_e s3) n
  rcases Nat.lt_or_ge n ds.length with hlt | hge
  · refine .inr ⟨(y1 hlt).1, ?_⟩
    obtain ⟨d, hd⟩ : ∃ d, ds[n]? = some d := ⟨_, List.getElem?_eq_getElem hlt⟩
    refine ⟨fun H' => n + 1 ≤ ds.length ∧ ∃ vs, H' D = some (.lst vs) ∧ RpA (upd H' D (.ext (Lph D vs))) vs ((ds.take (n + 1)).flatMap fun d => (es d).map (f d)) ∧ Same H2 H', fun H' q => ⟨ds.length - (n + 1), by omega, rfl, q⟩, fun x H4 yx => ?_⟩
    obtain ⟨s4, d', hd', _, rx⟩ := (y1 hlt).2 x H4 yx
    obtain rfl : d = d' := Option.some.inj (hd.symm.trans hd')
    have hD4 : H4 D = some (.lst vs) := s4 _ _ hD3
    have s24 := same_hide (u := .ext (Lph D vs)) (s3.trans s4) hD hD4
    obtain ⟨k1, k2⟩ := step d (List.mem_of_getElem? hd) (del H4 D) x (s.trans (s2.trans (del_same (s3.trans s4) hD hD4))) ((rx D (.ext (Lph D vs)) (.inl hD) ⟨_, hD3⟩).monoX upd_same fun b o hb q n => by rw [upd_ne hb] at q; rw [del_ne hb]; exact q)
    refine ⟨by
      show ((((σ.set j none).set i none).set i (some x)).set j none).set i none = (σ.set j none).set i none
      rw [List.set_set, List.set_comm _ _ hij, List.set_set, List.set_set], yes_of (iteT ?_)⟩
    refine ui_hide hD4 (k1 _ _ del_under fun J1 H5 s5 yl1 hlen1 => ⟨s5 _ _ upd_same, ?_⟩)
    have hD5 : H5 D = some (.ext (Lph D vs)) := s5 _ _ upd_same
    have e5 : ((ds.take n).flatMap fun d => (es d).map (f d)).length + (es d).length ≤ (ds.flatMap fun d => (es d).map (f d)).length := by
      have q : ((ds.take (n + 1)).flatMap fun d => (es d).map (f d)).length ≤ (ds.flatMap fun d => (es d).map (f d)).length := by
        have := List.take_append_drop (n + 1) ds
        conv => rhs; rw [← this]
        rw [List.flatMap_append, List.length_append]
        omega
      rw [flat_take hd, List.length_append, List.length_map] at q
      exact q
    -- the inner walk: vs1 holds what has been made
    refine ⟨fun c m H' => m = (es d).length - c ∧ c ≤ (es d).length ∧ ∃ vs1, H' D = some (.lst vs1) ∧ RpA (upd H' D (.ext (Lph D vs1))) vs1 (((ds.take n).flatMap fun d => (es d).map (f d)) ++ ((es d).take c).map (f d)) ∧ SameE H5 H' ∧ Same H2 H' ∧ Same (del H4 D) H', ⟨(es d).length, by simp, Nat.zero_le _, vs, upd_same, ?_, sameE_hide (fun b o q _ => q) (.inr ⟨_, hD5⟩), same_hide (s24.trans s5) hD hD5, same_hide (del_under.trans s5) del_eq hD5⟩, ?_⟩
    · rw [List.take_zero, List.map_nil, List.append_nil, upd_upd]
      refine ra.monoX upd_same fun b o hb q' n => ?_
      rw [upd_ne hb] at q' ⊢
      exact s5.at_ _ _ (by rw [upd_ne hb]; exact s4.at_ _ _ q' n) n
    rintro c m H6 ⟨rfl, hc, vs1, hD6, ra1, s6, s26, s46⟩
    obtain ⟨z1, z2⟩ := yl1 H6 s6 c
    rcases Nat.lt_or_ge c (es d).length with clt | cge
    · refine .inr ⟨(z1 clt).1, ?_⟩
      obtain ⟨d1, hd1⟩ : ∃ d1, (es d)[c]? = some d1 := ⟨_, List.getElem?_eq_getElem clt⟩
      refine ⟨fun H' => c + 1 ≤ (es d).length ∧ ∃ vs1, H' D = some (.lst vs1) ∧ RpA (upd H' D (.ext (Lph D vs1))) vs1 (((ds.take n).flatMap fun d => (es d).map (f d)) ++ ((es d).take (c + 1)).map (f d)) ∧ SameE H5 H' ∧ Same H2 H' ∧ Same (del H4 D) H', fun H' q => ⟨(es d).length - (c + 1), by omega, rfl, q⟩, fun x1 H7 yx1 => ?_⟩
      obtain ⟨s7, d1', hd1', _, rx1⟩ := (z1 clt).2 x1 H7 yx1
      obtain rfl : d1 = d1' := Option.some.inj (hd1.symm.trans hd1')
      have hD7 : H7 D = some (.lst vs1) := s7 _ _ hD6
      refine ⟨by
        show ((((wipe σ [i, j]).set i (some x)).set j none).set j (some x1)).set j none = ((wipe σ [i, j]).set i (some x)).set j none
        rw [List.set_set, List.set_set], yes_of (iteT (ue_hide hD7 ?_))⟩
      have sH : Same (del H4 D) (upd H7 D (.ext (Lph D vs1))) := same_hide (s46.trans s7) del_eq hD7
      refine k2 d1 (List.mem_of_getElem? hd1) (upd H7 D (.ext (Lph D vs1))) x1 sH (rx1 D _ (.inr ⟨_, hD5⟩) ⟨_, hD6⟩) _ _ (Same.refl _) fun yv H8 yd s8 ry fy => ?_
      subst fy
      have hD8 : H8 D = some (.ext (Lph D vs1)) := s8 _ _ upd_same
      have hl1 : vs1.length < sizeLine := by
        rw [ra1.length, List.length_append, List.length_map, List.length_take]
        omega
      have mv : SameX D H8 (upd (upd (upd H8 D (.lst vs1)) D (.lst (vs1 ++ [yv]))) D (.ext (Lph D (vs1 ++ [yv])))) := fun b o hb q' _ => by rw [upd_ne hb, upd_ne hb, upd_ne hb]; exact q'
      have s78 : SameX D H7 (upd (upd H8 D (.lst vs1)) D (.lst (vs1 ++ [yv]))) := fun b o hb q' n => by rw [upd_ne hb, upd_ne hb]; exact s8.at_ _ _ (by rw [upd_ne hb]; exact q') n
      refine ⟨hD8, vs1, upd_same, hl1, clt, vs1 ++ [yv], upd_same, ?_, fun b o q' n => ?_, same_hide (same_hide ((same_hide (s26.trans s7) hD hD7).trans s8) hD hD8) hD upd_same, same_hide (same_hide (sH.trans s8) del_eq hD8) del_eq upd_same⟩
      · have e6 : ((es d).take (c + 1)).map (f d) = ((es d).take c).map (f d) ++ [f d d1] := by rw [List.take_succ, hd1, List.map_append] <;> rfl
        rw [e6, ← List.append_assoc]
        refine RpA.append ?_ (.cons (ry.monoX hD8 mv) .nil)
        refine ra1.monoX upd_same fun b o hb q' n => ?_
        rw [upd_ne hb] at q' ⊢
        exact s78 _ _ hb (s7.at_ _ _ q' n) n
      · have hb : b ≠ D := fun z => by subst z; rw [hD5] at q'; cases q'; cases n
        exact s78 _ _ hb (s7.at_ _ _ (s6 _ _ q' n) (nX_nT n)) (nX_nT n)
    · have ce : c = (es d).length := by omega
      subst ce
      refine .inl ⟨z2 rfl, hlt, vs1, hD6, ?_, s26⟩
      rw [flat_take hd]
      rw [List.take_length] at ra1
      exact ra1
  · have en : n = ds.length := by omega
    subst en
    rw [List.take_length] at ra
    exact .inl ⟨y2 rfl, q (.ref D) H3 _ (s2.trans s3) (.lst hD3 (ra.monoX upd_same fun b o hb q n => by rw [upd_ne hb] at q; exact q)) rfl⟩
theorem wb_setLc2 {elt e1 : Expr} {scope : Scope} {y z u : Str} {i j i0 : Nat} {tp tq pu spos : Pos} {ds : List PyData} (hA : ∀ i, At (X i) P w K mg base k) (hN : ∀ i, (X i).N.Nodup) (ok : ∀ i', BlkOk (X i').N (X i').env.scope scope [(y, i), (z, j)]) (hij : i ≠ j)
    (hg : ∀ i', PG (blkF X scope i') (.Name y tp) (gName i)) (hg1 : ∀ i', PG (blkF X scope i') (.Name z tq) (gName j)) (src : DI X σ H (.Name y tp) e ds) (es : PyData → List PyData) (f : PyData → PyData → PyData) (hz : (ds.flatMap fun d => (es d).map (f d)).length ≤ sizeLine)
    (step : ∀ d, d ∈ ds → ∀ H' v, Same H H' → Rp H' v d → DI (blkF X scope) ((wipe σ [i, j]).set i (some v)) H' (.Name z tq) e1 (es d) ∧ ∀ d', d' ∈ es d → ∀ H'' v', Same H' H'' → Rp H'' v' d' → DE (blkF X scope) ((((wipe σ [i, j]).set i (some v)).set j none).set j (some v')) H'' elt (f d d'))
    (hy : ∀ i, (X i).N[i0]? = some u) (hyl : ∀ i, (X i).env.scope.names.lookup u = some .local) (hsw : ∀ i, swapsWith (.ListComp elt [⟨.Name y tp, e, [], 0⟩, ⟨.Name z tq, e1, [], 0⟩] scope pos) (some (.Name u pu)) spos.line (X i).env = pure true)
    (q : ∀ v H2, Same H H2 → Rp H2 v (.list (ds.flatMap fun d => (es d).map (f d))) → uB X sts D (σ.set i0 (some v)) H2)
    (hs : ∀ i x, foldedSetIterable e (X i).env x = pure x := by intro _ _; rfl) (hs1 : ∀ env x, foldedSetIterable e1 env x = pure x := by intro _ _; rfl) :
    uB X (.Assign [.Name u pu] (.ListComp elt [⟨.Name y tp, e, [], 0⟩, ⟨.Name z tq, e1, [], 0⟩] scope pos) spos :: sts) D σ H := by
  refine wb_cons (fun i' => ps_setLc2 (wi := uI X (.Name y tp) e) (g := gName i) (tt := tYes) (wi1 := uI (blkF X scope) (.Name z tq) e1) (g1 := gName j) (tt1 := tYes) (te := uE (blkF X scope) elt) (own := [(y, i), (z, j)]) (vs1 := [j]) (hA i').calm (hN i') (hy i') (hyl i') (hsw i') (pi_u i') (ok i') (fun k hk => by simp at hk; subst hk; simp)
    (fun s H C cl fp => hg (i', s, H, C, cl, fp)) (fun _ _ _ _ _ => pts_nil) (fun s H C cl fp => pi_u (X := blkF X scope) (i', s, H, C, cl, fp)) (fun s H C cl fp => hg1 (i', s, H, C, cl, fp)) (fun _ _ _ _ _ => pts_nil) (fun s H C cl fp => pe_u (X := blkF X scope) (i', s, H, C, cl, fp)) (hs i') hs1) ?_
  exact lc2_sem hij src es f hz step H _ (Same.refl H) fun v H2 d s2 r e1 => by
    subst e1
    exact q v H2 s2 r
end
section
variable {I : Type} {X : I → Cx} {H0 : Hp} {ρ : Env1} {tg e a b c : Expr} {es rest : List Expr} {pos : Pos}
variable {P : Program} {w : World} {K : PySem.W.Frag} {mg : Str → Option Value} {base : Heap} {k : Nat} {x : Str} {p : Pos} {ps : List Str} {D : Ends} {sts : List Stmt}
/-- u = [elt for y in e for z in e1] -/
theorem ws_setLc2 {elt e1 : Expr} {scope : Scope} {y z u : Str} {i j i0 : Nat} {tp tq pu spos : Pos} {ds : List PyData} (hA : ∀ i, At (X i) P w K mg base k) {N : List Str} {sc : Scope} (S : Sc X N sc) (src : EI X H0 ρ (.Name y tp) e ds) (es : PyData → List PyData) (f : PyData → PyData → PyData) (hz : (ds.flatMap fun d => (es d).map (f d)).length ≤ sizeLine)
    (step : ∀ d, d ∈ ds → EI (blkF X scope) H0 ((wipeR ρ [i, j]).set i (some (.dat d))) (.Name z tq) e1 (es d) ∧ ∀ d', d' ∈ es d → EV (blkF X scope) H0 ((((wipeR ρ [i, j]).set i (some (.dat d))).set j none).set j (some (.dat d'))) elt (f d d'))
    (q : WS X H0 (ρ.set i0 (some (.dat (.list (ds.flatMap fun d => (es d).map (f d)))))) sts D)
    (ok : blkC N sc scope [(y, i), (z, j)] = true := by decide +kernel) (sw : swB sc scope u = true := by decide +kernel) (hij : i ≠ j := by decide) (hy : N[i0]? = some u := by rfl) (hl : (pu.line == pos.line) = true := by rfl)
    (hi : ∀ i', (X i').N[i]? = some y := by intro _; rfl) (hj : ∀ i', (X i').N[j]? = some z := by intro _; rfl)
    (hx : ∀ i', Loc (blkF X scope i').env.scope y := by intro _; first | exact Or.inl rfl | exact Or.inr rfl) (hf : ∀ i', (blkF X scope i').fn y = true ∨ (blkF X scope i').env.scope.names.lookup y = some .local := by intro _; first | exact Or.inr rfl | exact Or.inl rfl)
    (hx' : ∀ i', Loc (blkF X scope i').env.scope z := by intro _; first | exact Or.inl rfl | exact Or.inr rfl) (hf' : ∀ i', (blkF X scope i').fn z = true ∨ (blkF X scope i').env.scope.names.lookup z = some .local := by intro _; first | exact Or.inr rfl | exact Or.inl rfl)
    (hs : ∀ i x, foldedSetIterable e (X i).env x = pure x := by intro _ _; rfl) (hs1 : ∀ env x, foldedSetIterable e1 env x = pure x := by intro _ _; rfl) :
    WS X H0 ρ (.Assign [.Name u pu] (.ListComp elt [⟨.Name y tp, e, [], 0⟩, ⟨.Name z tq, e1, [], 0⟩] scope pos) spos :: sts) D := .mk fun σ H s r => by
  have sw' := sw
  unfold swB at sw'
  simp only [Bool.and_eq_true, decide_eq_true_eq, Bool.not_eq_true'] at sw'
  exact wb_setLc2 hA S.ndx (S.ok ok) hij (fun i' => pg_name (S.ndx i'.1) (hi i'.1) (hx i') (hf i')) (fun i' => pg_name (S.ndx i'.1) (hj i'.1) (hx' i') (hf' i')) (src σ H s r) es f hz (fun d hd H' v s' rv => by
    have q := ((r.mono s').wipe [i, j]).set (i := i) rv
    exact ⟨(step d hd).1 _ H' (s.trans s') q, fun d' hd' H'' v' s'' rv' => (step d hd).2 d' hd' _ H'' ((s.trans s').trans s'') ((q.mono s'').unset.set rv')⟩)
    (fun i => by rw [S.hN i]; exact hy) (fun i => by rw [S.hs i]; exact sw'.1.2) (fun i => sw_by (S.hs i) sw hl) (fun v H2 s2 rv => q.run _ H2 (s.trans s2) ((r.mono s2).set rv)) hs hs1
end
end SW

set_option Elab.async false
set_option linter.all false
set_option maxRecDepth 100000
set_option maxHeartbeats 4000000
/-! SwCnt: xs.count(d), a list of data. -/
namespace SW
open PySem PySem.Spec PyProof.Rows
open L2 hiding Same
def rCntD (K : PySem.W.Frag) : V → List V → Hp → VK → Prop := fun x xs H Q => ∃ (a : Addr) (y : V) (d : PyData) (ds : List PyData), x = V.ref a ∧ xs = [y] ∧ Dp K H (V.ref a) (.list ds) ∧ Dp K H y d ∧
  SeqAt.shaped (.list ds) = true ∧ SeqAt.shaped d = true ∧ Q (.int ((ds.countP fun z => PyData.eqv z d : Nat) : Int)) H
theorem mt_countD {X : Cx} (hu : X.A.units + 65 < cLine) : MtR X "list.count" (rCntD X.K) := by
  intro pins s σ H x xs v us Q I rx rxs h
  obtain ⟨a, y, d, ds, rfl, rfl, hl, hy, sl, sd, q⟩ := h
  cases rx
  cases rxs with
  | cons ry rt =>
    rename_i uy ut
    cases rt
    obtain ⟨bs, r1⟩ := Dp.reads I d y uy hy ry
    have hxs : PyData.canLayAll0 ds = true := SeqAt.canLay_of_shaped sl
    have hroom : X.A.units + 1 + min (PyData.depthAll ds) d.depth < cLine := room_in_shaped sd hu
    cases hl with
    | lst hs ha =>
      obtain ⟨its, rv, ⟨⟨cls, dd, data, sls⟩, n, ho, hc, hdn, hdt⟩, hlen⟩ := I.list hs
      simp only at hc hdt
      subst hc hdt
      obtain ⟨as, h4⟩ := Dp.readsAll I ds _ its ha rv
      have hmap : its.map (SeqAt.readOf s.heap) = ds := SeqAt.readsAll_map ds its as hxs h4
      refine call_meets PySem.F.slot_list_count ⟨_, ho, rfl⟩ PySem.F.entry_list_count (PySem.F.args_list_count_2 _ _)
        (SeqAt.list_countAt a its.toArray n dd sls uy (fun u => PyData.eqv (SeqAt.readOf s.heap u) d)) ⟨ho, SeqAt.items_eqAt (vs := its.toArray) (show ReadsAll s.heap its.toArray.toList ds as from h4) r1 hxs (SeqAt.canLay_of_shaped sd) hroom, ?_⟩
      have e : its.toArray.toList.countP (fun u => PyData.eqv (SeqAt.readOf s.heap u) d) = ds.countP fun z => PyData.eqv z d := by
        rw [← hmap, List.countP_map] <;> rfl
      refine ⟨.int ((ds.countP fun z => PyData.eqv z d : Nat) : Int), H, I.tok _, ⟨s.toks, ?_⟩, q⟩
      show Value.int ((its.toArray.toList.countP (fun u => PyData.eqv (SeqAt.readOf s.heap u) d) : Nat) : Int) s.toks = _
      rw [e]
variable [Nm]
section
variable {I : Type} {X : I → Cx} {H0 : Hp} {ρ : Env1} {e o : Expr}
variable {P : Program} {w : World} {K : PySem.W.Frag} {mg : Str → Option Value} {base : Heap} {k : Nat}
/-- xs.count(e) -/
theorem ev_countL {ds : List PyData} {d : PyData} {p2 p3 : Pos} (hA : ∀ i, At (X i) P w K mg base (k + 1)) (ho : EV X H0 ρ o (.list ds)) (he : EV X H0 ρ e d) (h1 : Shp (.list ds)) (h2 : Shp d)
    (hbase : ∀ i, attributeBase o "count" (X i).env (eval o (X i).env) = eval o (X i).env := by intro _; rfl) (hline : (p2.endLine == p3.line) = true := by rfl)
    (hfew : ∀ i, ((backTo p3 (starEach [e] (X i).env)).all (fun x => !x.1) && (backToKw p3 (keywordEach [] (X i).env)).all (fun x => x.1.isSome) && decide ([e].length + ([] : List Keyword).length + (if ([] : List Keyword).isEmpty then 0 else 1) < 30)) = true := by intro _; rfl)
    (hs : ∀ i, starEach [e] (X i).env = (false, eval e (X i).env) :: starEach [] (X i).env := by intro _; rfl) :
    EV X H0 ρ (.Call (.Attribute o "count" p2) [e] [] p3) (.int ((ds.countP fun z => PyData.eqv z d : Nat) : Int)) := .mk fun σ H s r H1 Q s1 q =>
  ⟨tBM K "list" (rCntD K) (uE X o) (tCons (uE X e) tNil), fun i => by
    have z := pe_bm (X := X i) PySem.F.plainAttrs_list PySem.F.slot_list_count PySem.F.type_list_count (mt_countD (hA i).hu5) (pe_u i) (pa_cons (pe_u i) pa_nil (hs i)) (hbase i) (hfew i) hline (hs i) (by rfl)
    rw [(hA i).K] at z
    exact z, ho σ H s r H1 _ s1 fun v H2 x s2 rv e1 => by
      subst e1
      cases rv with
      | @lst a xs _ h t =>
        refine ⟨.inl ⟨rfl, _, SqL.of h⟩, he σ H s r H2 _ (s1.trans s2) fun v2 H3 y s3 rv2 e2 => ?_⟩
        subst e2
        exact ⟨a, v2, y, ds, rfl, rfl, (Rp.lst (s3 _ _ h) (t.mono s3)).dp (SeqAt.canLay_of_shaped h1), rv2.dp (SeqAt.canLay_of_shaped h2), h1, h2, q _ H3 _ (s2.trans s3) (.int _) rfl⟩⟩
end
end SW

set_option Elab.async false
set_option linter.all false
set_option maxRecDepth 100000
set_option maxHeartbeats 2000000
/-! SwTh: lambdas whose parameters all have defaults: made, kept, called by another def. -/
namespace SW
open PySem PySem.Spec PyProof.Rows
open L2 hiding Same
open LamX (TabB)
open NdefX (NF NScope CellsAt startF envF ncx inv_startN Caps cells_of slotAt)
variable [Nm]
/-- the lambda's object at f, its code at c', its defaults' values dvs -/
def LamD (H : Hp) (f c' : Addr) (q : Str) (params : Arguments) (body : Expr) (scope : Scope) (cl : List (Str × Addr)) (dvs : List V) : Prop :=
  ∃ dV doc pm ctv, H f = some (.frz (PySem.W.kdv_obj "<lambda>" q params (.expr body) scope cl dV doc pm c' ctv) (.own 0)) ∧ CodH H c' q ∧ ((dvs = [] ∧ dV = .none) ∨ (dvs ≠ [] ∧ ∃ T, dV = .ref T ∧ H T = some (.tup dvs)))
theorem LamD.mono {H H' : Hp} {f c' : Addr} {q : Str} {params : Arguments} {body : Expr} {scope : Scope} {cl : List (Str × Addr)} {dvs : List V} (h : LamD H f c' q params body scope cl dvs) (s : Same H H') : LamD H' f c' q params body scope cl dvs := by
  obtain ⟨dV, doc, pm, ctv, h1, ⟨oc, vs, t, h2, h3⟩, h4⟩ := h
  refine ⟨dV, doc, pm, ctv, s _ _ h1, ⟨oc, vs, t, s _ _ h2, h3⟩, ?_⟩
  rcases h4 with z | ⟨z, T, e, hT⟩
  · exact .inl z
  · exact .inr ⟨z, T, e, s _ _ hT⟩
/-- what a lambda comes to -/
def tLamD (P : Addr) (q : Str) (params : Arguments) (body : Expr) (scope : Scope) (cl : List (Str × Addr)) (dvs : List V) : TE := fun σ H Q => TabF H P ∧ ∀ f c' H1, Same H H1 → LamD H1 f c' q params body scope cl dvs → Q (.ref f) H1
section
variable {X : Cx} {c P : Addr} {params : Arguments} {body : Expr} {scope : Scope} {pos : Pos}
theorem pe_lam0 (TB : TabB X.base X.mg c P) (hcode : X.env.code = .ref c) (hq : Nm.nm pos.line pos.col = X.env.qual ++ "<lambda>") (hdef : defaultsOf params X.env = ([], []))
    (hfree : X.Ok → ∀ y ∈ scope.names, y.2 = .free → ∃ c, X.env.cells.lookup y.1 = some c) : PE X (.Lambda params body scope pos) (tLamD P (X.env.qual ++ "<lambda>") params body scope (cloFrom X.env.cells scope.names []) []) := by
  refine ⟨fun pins s σ H Q J h => (pe_lam (pos := pos) (body := body) TB hcode hq hdef hfree).run pins s σ H Q J ⟨h.1, fun f c' H1 s1 l => h.2 f c' H1 s1 ?_⟩⟩
  obtain ⟨pm, ctv, h1, h2⟩ := l
  exact ⟨.none, .none, pm, ctv, h1, h2, .inl ⟨rfl, rfl⟩⟩
/-- lambda a=i: body -/
theorem pe_lam1 {i : Int} {j : Nat} {p1 : Pos} (TB : TabB X.base X.mg c P) (hcode : X.env.code = .ref c) (hq : Nm.nm pos.line pos.col = X.env.qual ++ "<lambda>") (hdef : params.defaults = [.Constant (.int i) j p1]) (hk0 : params.kw_defaults = [])
    (hfree : X.Ok → ∀ y ∈ scope.names, y.2 = .free → ∃ c, X.env.cells.lookup y.1 = some c) : PE X (.Lambda params body scope pos) (tLamD P (X.env.qual ++ "<lambda>") params body scope (cloFrom X.env.cells scope.names []) [.int i]) := by
  refine ⟨fun pins s σ H Q J h => ?_⟩
  obtain ⟨tF, h⟩ := h
  refine PySem.W.kdv_lam (by rw [hdef] <;> rfl) hk0 ?_
  rw [hdef]
  refine PySem.W.kdv_all1 (thn ((pe_int (X := X) (i := i) (j := j) (pos := p1)).run pins s σ H (fun v H1 => v = .int i ∧ H1 = H) J ⟨rfl, rfl⟩) fun u s1 ⟨v, H1, J1, r1, q1⟩ => PySem.W.kdv_all0 ?_)
  obtain ⟨rfl, rfl⟩ := q1
  rw [makeFunction_eq]
  simp only [List.zip_nil_right, List.filterMap_nil, List.isEmpty_nil, if_true, pure_bind, List.isEmpty_cons, Bool.false_eq_true, if_false]
  refine wpAny_bind (wpAny_newTextTuple ?_)
  -- the tuple of defaults
  have hT : H1 s1.heap.objs.size = none := J1.hok.fresh (Nat.le_refl _)
  have J2 : Inv X pins σ (upd H1 s1.heap.objs.size (.tup [.int i])) { s1 with heap := s1.heap.push { cls := .type "tuple", data := .seq [u].toArray } } := J1.laid (t' := s1.toks) (fun b o e => Heap.get?_push_of_some _ e) (Nat.le_refl _) ⟨Nat.le_of_lt (small1000 (show 1 ≤ 1000 by decide)), [u], .cons r1 .nil, ⟨_, Heap.get?_push_size _ rfl, rfl, _, rfl⟩⟩
  have sT : Same H1 (upd H1 s1.heap.objs.size (.tup [.int i])) := same_upd hT
  generalize hT2 : s1.heap.objs.size = T at J2 sT ⊢
  generalize hS2 : ({ s1 with heap := s1.heap.push { cls := .type "tuple", data := .seq [u].toArray } } : Shared) = s2 at J2 ⊢
  have hTT : upd H1 T (.tup [.int i]) T = some (.tup [.int i]) := upd_same
  generalize upd H1 T (.tup [.int i]) = H2 at J2 sT hTT
  obtain ⟨ps, hP, tr, tell⟩ := sT.tab _ tF
  have bi : s2.heap.BuiltinsAt X.mg P := TB.bm.keeps J2.bk
  have objP : s2.heap.get? P = some { cls := .none, data := .fields ps } := J2.hok P _ hP
  cases hc : codeAmong pos ps.toList with
  | none =>
    refine PySem.W.kdv_makeTail (mg := X.mg) (c := c) (P := P) (ps := ps) (closure_ok (hfree J2.ok)) J2.ok.glob (J2.mod.glob.keeps J2.bk) hcode (TB.code.keeps J2.bk) objP tr hc TB.gP bi fun c' ctv doc h' tk kept ge lt rec_ tab => ?_
    obtain ⟨c2, oc, vs, t, e2, hoc, hd, hv⟩ := rec_
    cases e2
    have sz : s2.heap.objs.size ≤ h'.objs.size := Nat.le_trans ge (Nat.le_of_lt lt)
    have dif : c' ≠ h'.objs.size := Nat.ne_of_lt lt
    have J3 := inv_grow (t' := tk) (more := #[rawInt pos.line, rawInt pos.col, .ref c']) (h' := h'.push (PySem.W.kdv_obj "<lambda>" (X.env.qual ++ "<lambda>") params (.expr body) scope (cloFrom X.env.cells scope.names []) (.ref T) doc ((X.mg "__name__").getD .none) c' ctv)) J2 hP
      (fun b o hb e => Heap.get?_push_of_some _ (kept b o hb e)) (Heap.get?_push_of_some _ tab) ge sz dif (Heap.get?_push_of_some _ hoc) (Heap.get?_push_size _ rfl)
    have sm := same_grow J2 hP ge sz dif hd (by rw [hq]; exact hv) (fo := PySem.W.kdv_obj "<lambda>" (X.env.qual ++ "<lambda>") params (.expr body) scope (cloFrom X.env.cells scope.names []) (.ref T) doc ((X.mg "__name__").getD .none) c' ctv)
    exact ⟨.ref h'.objs.size, _, J3, rfl, h _ c' _ (sT.trans sm) ⟨_, doc, _, ctv, upd_same, ⟨oc, vs, t, by rw [upd_ne dif, upd_same], hd, hv⟩, .inr ⟨(by simp), T, rfl, sm _ _ hTT⟩⟩⟩
  | some cv =>
    obtain ⟨c', e, oc, vs, t, hoc, hd, hv⟩ := tell pos cv hc
    subst e
    refine PySem.W.kdv_makeTailHit (mg := X.mg) (c := c) (P := P) (ps := ps) (closure_ok (hfree J2.ok)) J2.ok.glob (J2.mod.glob.keeps J2.bk) hcode (TB.code.keeps J2.bk) objP tr hc bi fun ctv doc h' tk kept sz => ?_
    have fN : H2 h'.objs.size = none := J2.hok.fresh sz
    have J3 : Inv X pins σ (upd H2 h'.objs.size (.frz (PySem.W.kdv_obj "<lambda>" (X.env.qual ++ "<lambda>") params (.expr body) scope (cloFrom X.env.cells scope.names []) (.ref T) doc ((X.mg "__name__").getD .none) c' ctv) (.own 0))) _ :=
      J2.laid (t' := tk) (h' := h'.push (PySem.W.kdv_obj "<lambda>" (X.env.qual ++ "<lambda>") params (.expr body) scope (cloFrom X.env.cells scope.names []) (.ref T) doc ((X.mg "__name__").getD .none) c' ctv)) (fun b o e => Heap.get?_push_of_some _ (kept b o e)) sz ⟨Heap.get?_push_size _ rfl, _, Heap.get?_push_size _ rfl⟩
    refine ⟨.ref h'.objs.size, _, J3, rfl, h _ c' _ (sT.trans (same_upd fN)) ⟨_, doc, _, ctv, upd_same, ⟨oc, vs, t, ?_, hd, by rw [← hq]; exact hv⟩, .inr ⟨(by simp), T, rfl, (same_upd fN) _ _ hTT⟩⟩⟩
    rw [upd_ne (ne_of_none hoc fN)]
    exact hoc
/-- how its defaults bind -/
def BindD (params : Arguments) (body : Expr) (scope : Scope) (ps : List Str) (dvs : List V) : Prop :=
  (dvs = [] → ∀ (q : Str) (cl : List (Str × Addr)) (doc pm cdv ctv : Value), bindArgs (PySem.W.kdv_fn "<lambda>" q params (.expr body) scope cl .none doc pm cdv ctv) ⟨[], []⟩ = pure []) ∧
  (dvs ≠ [] → ∀ (q : Str) (cl : List (Str × Addr)) (T : Addr) (doc pm cdv ctv : Value) (its : List Value), its.length = dvs.length → ∃ k, bindArgs (PySem.W.kdv_fn "<lambda>" q params (.expr body) scope cl (.ref T) doc pm cdv ctv) ⟨[], []⟩ = seqItems? (.ref T) >>= k ∧ k (some its.toArray) = pure (ps.zip its))
end
abbrev lamG (q : Str) (params : Arguments) (scope : Scope) (cl : List (Str × Addr)) (c' : Addr) : NF := lamF q params scope cl c'
section
variable {CX : CXT} {P : Program} {w : World} {K : PySem.W.Frag} {mg : Str → Option Value} {base : Heap} {N ps fr : List Str} {f c' : Addr} {A : Around} {outer : List Env} {s : Shared} {H : Hp} {E : XK} {dvs : List V} {ws : List (Option V)} {k : Nat} {Q : VK}
variable {q : Str} {params : Arguments} {body : Expr} {scope : Scope} {cl : List (Str × Addr)} {tb : TE}
/-- f(), f a lambda whose parameters all have defaults -/
theorem lamD_run (S : NScope N ps fr scope) (hb : BindD params body scope ps dvs) (hl : dvs.length = ps.length) (hr : Room (k + 1) A) (e0 : Env0 P w K mg base A outer s H) (lam : LamD H f c' q params body scope cl dvs)
    (C : CellsAt cl fr ws s.heap H) (hbody : Room k (A.deeper (envF (lamF q params scope cl c') f s.heap.objs.size)) → PE (ncx CX P w K mg base N (lamF q params scope cl c') f A outer s H E) body tb) (ht : tb (startF N dvs ws) H Q) :
    codeAny (model P w) A (.call (.ref f) ⟨[], []⟩) (CR CX outer P w H s Q E) s := by
  obtain ⟨dV, doc, pm, ctv, hf, ⟨oc, wv, t, hoc, hd, hv⟩, hD⟩ := lam
  have of : s.heap.get? f = some (PySem.W.kdv_obj "<lambda>" q params (.expr body) scope cl dV doc pm c' ctv) := (show ObjOk P w H s.heap f _ from e0.hok f _ hf).1
  have occ : s.heap.get? c' = some oc := (show ObjOk P w H s.heap c' _ from e0.hok c' _ hoc).1
  have lim : s.heap.NoLimit := e0.mod.nolimit.keeps fun b o e => (e0.bs b o e).1
  have main : ∀ us, Vals dvs us → wpAny (model P w) A.in1 (newFunctionEnv scope mainGlobals cl (ps.zip us) (q ++ ".<locals>.") (some f) (.ref c') none builtinsNs) (fun env s₂ => s₂.heap.NoLimit ∧ codeAny (model P w) A (.expr body env) (CR CX outer P w H s Q E) s₂) (fun e s' => CR CX outer P w H s Q E (.error e) s') s := fun us r => by
    refine wpAny_newFunctionEnv S.nocell (fun ⟨n, _⟩ hy => S.par n (List.of_mem_zip hy).1) (fun h₁ hns hsb => ⟨lim.fresh _ hsb, ?_⟩) S.kind
    show codeAny _ _ (.expr body (envF (lamF q params scope cl c') f s.heap.objs.size)) _ _
    have kp : ∀ b o, s.heap.get? b = some o → h₁.get? b = some o := fun b o e => hsb.extBut b o (Nat.ne_of_lt (Heap.lt_size e)) (Heap.get?_push_of_some _ e)
    have J : Inv (ncx CX P w K mg base N (lamF q params scope cl c') f A outer s H E) [] (startF N dvs ws) H { s with heap := h₁, toks := s.toks + (ps.zip us).length } := inv_startN (F := lamF q params scope cl c') S hr.hd e0 hl r C hns kp
    refine PySem.W.kla_codeExpr (wpAny_mono ((hbody (hr.deeper _)).run [] _ _ H Q J ht) (fun v s' z => ?_) fun e s' z => z)
    obtain ⟨v', H', J', rv, z⟩ := z
    exact ⟨v', H', J'.os, J'.bare, J'.base, J'.hok, rv, z⟩
  refine PySem.W.kla_callFunE hr.depth of rfl S.co S.gen rfl ⟨c', oc, wv, t, rfl, occ, hd, hv⟩ ?_
  rcases hD with ⟨e1, e2⟩ | ⟨ne, T, e2, hT⟩
  · subst e2
    rw [hb.1 e1]
    refine wpAny_pure ?_
    have z := main [] (by rw [e1]; exact .nil)
    rw [List.zip_nil_right] at z
    exact z
  · subst e2
    obtain ⟨z, us, r, a, ha, hda, n, hsz⟩ := (show ObjOk P w H s.heap T _ from e0.hok T _ hT)
    obtain ⟨k', e1, e3⟩ := hb.2 ne q cl T doc pm (.ref c') ctv us r.length.symm
    rw [e1]
    refine wpAny_bind (wpAny_seqItems ha hsz ?_)
    rw [e3]
    exact wpAny_pure (main us r)
end
end SW

set_option Elab.async false
set_option linter.all false
set_option maxRecDepth 100000
set_option maxHeartbeats 2000000
/-! SwTh2: what a def does that calls the lambda it got. -/
namespace SW
open PySem PySem.Spec PyProof.Rows
open L2 hiding Same
open LamX (TabB)
open NdefX (NF NScope CellsAt startF envF ncx inv_startN Caps cells_of slotAt)
variable [Nm]
theorem cells_un {cl : List (Str × Addr)} {fr : List Str} {ws : List (Option V)} {fs : List Addr} {H H' : Hp} {h h' : Heap} (C : CellsAt cl fr ws h H) (un : Un fs [] H H' h h') : CellsAt cl fr ws h' H' := by
  have cellK : ∀ {c : Addr} {v : Option Value}, H c = none → h.IsCell c v → h'.IsCell c v := fun {c v} n ⟨o, ho, hd⟩ => by
    obtain ⟨sl, q⟩ := un.any ho n (by simp)
    exact ⟨_, q, hd⟩
  refine ⟨C.len, fun y c e => ?_, C.inj, fun i y e => ?_⟩
  · obtain ⟨n, v, z⟩ := C.all y c e
    refine ⟨?_, v, cellK n z⟩
    obtain ⟨o, ho, _⟩ := z
    exact un.free c o ho n (by simp)
  · obtain ⟨c, hc, hv⟩ := C.has i y e
    refine ⟨c, hc, fun v ev => ?_⟩
    obtain ⟨u, r, z⟩ := hv v ev
    exact ⟨u, r, cellK (C.all y c hc).1 z⟩
/-- the contexts of a lambda's body -/
abbrev lamFam (P : Program) (w : World) (K : PySem.W.Frag) (mg : Str → Option Value) (base : Heap) (N : List Str) (q : Str) (params : Arguments) (scope : Scope) (cl : List (Str × Addr)) (k : Nat) (E : XK) :
    {t : Around × List Env × Shared × Hp × Addr × Addr // Room k (t.1.deeper (envF (lamF q params scope cl t.2.2.2.2.2) t.2.2.2.2.1 t.2.2.1.heap.objs.size))} → Cx :=
  fun t => ncx (L2.CX P w) P w K mg base N (lamF q params scope cl t.1.2.2.2.2.2) t.1.2.2.2.2.1 t.1.1 t.1.2.1 t.1.2.2.1 t.1.2.2.2.1 E
section
variable {P : Program} {w : World} {K : PySem.W.Frag} {mg : Str → Option Value} {base : Heap} {N : List Str} {q : Str} {params : Arguments} {body : Expr} {scope : Scope} {cl : List (Str × Addr)} {k : Nat} {E : XK}
theorem at_lam : ∀ i, At (lamFam P w K mg base N q params scope cl k E i) P w K mg base k := fun i => ⟨rfl, rfl, rfl, rfl, rfl, rfl, i.2⟩
theorem tk_lam : ∀ i, Takes (lamFam P w K mg base N q params scope cl k E i) (fun cls d _ H => E cls d H) := fun _ => takes_of rfl rfl rfl rfl
variable {CXg : CXT} {Eg : XK} {Ng ps fr : List Str} {qg : Str} {sg : Scope} {g f c' : Addr} {cdg : Value} {A : Around} {stack : List Env} {s : Shared} {H : Hp} {dvs : List V} {ws : List (Option V)} {i : Nat} {a : Str} {pn : List (Addr × Obj)} {xe : Value → Shared → Prop} {W : WX} {p1 p2 : Pos}
theorem pe_act (S : NScope N ps fr scope) (hb : BindD params body scope ps dvs) (hl : dvs.length = ps.length) (C : CellsAt cl fr ws s.heap H) (tk : Takes ((cxOf CXg P w K mg base Ng qg sg g cdg A stack s H Eg).tr pn xe) W) (hr : Room (k + 1) (A.deeper (envOfC qg sg s.heap.objs.size g cdg)))
    (hN : Ng[i]? = some a) (hv : Vis sg a) (hd : (a == ("__debug__" : Str)) = false := by decide) (hcd : (a == ("__classdict__" : Str)) = false := by decide) :
    PE ((cxOf CXg P w K mg base Ng qg sg g cdg A stack s H Eg).tr pn xe) (.Call (.Name a p1) [] [] p2)
      (fun σZ HZ Q => σZ[i]? = some (some (.ref f)) ∧ LamD HZ f c' q params body scope cl dvs ∧ uE (lamFam P w K mg base N q params scope cl k (WE W σZ)) body (startF N dvs ws) HZ Q) := by
  refine ⟨fun pinsZ sZ σZ HZ Q IZ h => ?_⟩
  obtain ⟨hs, lam, ht⟩ := h
  refine wpAny_Call_Name_kw (thn ((pe_var (pos := p1) (i := i) hN hv hd hcd).run pinsZ sZ σZ HZ (fun v H1 => v = .ref f ∧ H1 = HZ) IZ ⟨.ref f, hs, rfl, rfl⟩) fun u s1 ⟨v, H1, I1, r1, q1⟩ => ?_)
  obtain ⟨ev, eH⟩ := q1
  subst ev
  rw [eH] at I1
  obtain rfl : u = Value.ref f := r1
  have un : Un (frs stack) [] H HZ s.heap s1.heap := I1.base
  have C1 := cells_un C un
  have of1 := lam
  obtain ⟨dV, doc, pm, ctv, hf, _, _⟩ := of1
  have of1 : s1.heap.get? f = some (PySem.W.kdv_obj "<lambda>" q params (.expr body) scope cl dV doc pm c' ctv) := (show ObjOk P w HZ s1.heap f _ from I1.env0.hok f _ hf).1
  refine PySem.W.callWith_F0 ⟨_, _, _, _, of1⟩ ?_
  have rc : codeAny (model P w) (A.deeper (envOfC qg sg s.heap.objs.size g cdg)) (.call (.ref f) ⟨[], []⟩) (CR (L2.CX P w) (envOfC qg sg s.heap.objs.size g cdg :: stack) P w HZ s1 Q (WE W σZ)) s1 :=
    lamD_run (CX := L2.CX P w) (K := K) (mg := mg) (base := base) (E := WE W σZ) (tb := uE (lamFam P w K mg base N q params scope cl k (WE W σZ)) body) S hb hl hr I1.env0 lam C1 (fun hr2 => pe_u (X := lamFam P w K mg base N q params scope cl k (WE W σZ)) ⟨(_, _, _, _, _, _), hr2⟩) ht
  have hx := passAt tk σZ
  refine wpAny_call (codeAny_mono rc fun r s' hq => ?_)
  cases r with
  | error e => exact hx pinsZ HZ s1 e s' I1 hq
  | ok fl =>
    cases fl with
    | ret u => exact I1.after hq
    | next => exact False.elim hq
    | brk => exact False.elim hq
    | cont => exact False.elim hq
end
end SW

set_option Elab.async false
set_option linter.all false
set_option maxRecDepth 100000
set_option maxHeartbeats 2000000
/-! SwTh3: d(e), e a lambda (without arguments) that raises, d a def that calls it and tells the exception's word. -/
namespace SW
open PySem PySem.Spec PyProof.Rows
open L2 hiding Same
open LamX (TabB)
open NdefX (NF NScope CellsAt startF envF ncx inv_startN Caps cells_of slotAt)
variable [Nm]
/-- G holds of what an exception with the fields fl (none: no dict) may have with it, from H on -/
def Told (fl : Option (List (Str × PyData))) (H : Hp) (G : Option Addr → Hp → Prop) : Prop := match fl with
  | none => ∀ H', Same H H' → G none H'
  | some l => ∀ H' dd fs, Same H H' → H' dd = some (.xd fs) → FldOk H' fs l → G (some dd) H'
theorem Told.mono {fl : Option (List (Str × PyData))} {H H' : Hp} {G : Option Addr → Hp → Prop} (h : Told fl H G) (s : Same H H') : Told fl H' G := by
  cases fl with
  | none => exact fun H2 s2 => h H2 (s.trans s2)
  | some l => exact fun H2 dd fs s2 => h H2 dd fs (s.trans s2)
/-- what a lambda's slots hold at the start -/
abbrev lamR (N : List Str) (dn : List Int) (ds : List PyData) : Env1 := ((dn.map PyData.int ++ ds).map fun d => some (SD.dat d)) ++ List.replicate (N.length - dn.length - ds.length) none
theorem lam_start {N : List Str} {dn : List Int} {ds : List PyData} {ws : List V} {H : Hp} (r : RpA H ws ds) : RpS H (startF N (dn.map V.int) (ws.map some)) (lamR N dn ds) := by
  have r2 : RpA H (dn.map V.int ++ ws) (dn.map PyData.int ++ ds) := by
    clear N
    induction dn with
    | nil => exact r
    | cons i dn ih => exact .cons (.int i) ih
  have z := r2.start (N.length - dn.length - ds.length)
  unfold startF lamR
  rw [List.length_map, List.length_map, r.length, ← List.append_assoc, ← List.map_append]
  exact z
/-- a lambda's words -/
structure LW where
  params : Arguments
  body : Expr
  scope : Scope
  N : List Str
  ps : List Str
  fr : List Str
  js : List Nat
  dn : List Int
/-- it raises c with the fields fl, its captured names holding ds -/
def Rai (P : Program) (w : World) (K : PySem.W.Frag) (mg : Str → Option Value) (base : Heap) (k : Nat) (L : LW) (ds : List PyData) (c : Value) (fl : Option (List (Str × PyData))) : Prop :=
  ∀ (q : Str) (cl : List (Str × Addr)) (E : XK) (H : Hp), Told fl H (fun d H' => E c d H') → EP (lamFam P w K mg base L.N q L.params L.scope cl k E) H (lamR L.N L.dn ds) L.body (fun _ => False)
structure LWok (L : LW) : Prop where
  sc : NScope L.N L.ps L.fr L.scope
  bd : BindD L.params L.body L.scope L.ps (L.dn.map V.int)
  len : L.dn.length = L.ps.length
abbrev LamL (H : Hp) (f : Addr) (L : LW) (q : Str) (cl : List (Str × Addr)) : Prop := ∃ c', LamD H f c' q L.params L.body L.scope cl (L.dn.map V.int)
section
variable {I : Type} {X : I → Cx} {H0 : Hp} {ρ : Env1} {e : Expr} {pos p : Pos}
variable {P : Program} {w : World} {K : PySem.W.Frag} {mg : Str → Option Value} {base : Heap} {k : Nat} {x a : Str} {st : Stmt} {Ng : List Str}
theorem slots_of {σ : L2.St} {H : Hp} : ∀ {js : List Nat} {ds : List PyData}, RpS H σ ρ → js.map (fun j => (ρ[j]? : Option (Option SD))) = ds.map (fun d => some (some (SD.dat d))) → ∃ ws : List V, js.map (slotAt σ) = ws.map some ∧ RpA H ws ds
  | [], [], _, _ => ⟨[], rfl, .nil⟩
  | [], _ :: _, _, h => by simp at h
  | _ :: _, [], _, h => by simp at h
  | j :: js, d :: ds, r, h => by
    rw [List.map_cons, List.map_cons] at h
    injection h with h1 h2
    obtain ⟨v, e1, e2⟩ := r.get h1
    obtain ⟨ws, e3, e4⟩ := slots_of r h2
    exact ⟨v :: ws, by rw [List.map_cons, List.map_cons, e3, NdefX.slotAt_of e1], .cons e2 e4⟩
/-- the def that is called with the lambda: what it does, the call's promise in hand -/
def Words (P : Program) (w : World) (K : PySem.W.Frag) (mg : Str → Option Value) (base : Heap) (k : Nat) (x a : Str) (st : Stmt) (Ng : List Str) (c : Value) (fl : Option (List (Str × PyData))) (d : PyData) : Prop :=
  ∀ (g : Addr) (cdv : Value) (A : Around) (outer : List Env) (s : Shared) (H : Hp) (Q : VK) (f : Addr), (∀ i, At (bdF P w K mg base Ng x (defScope st) g cdv A outer s H i) P w K mg base k) → Sc (bdF P w K mg base Ng x (defScope st) g cdv A outer s H) Ng (defScope st) →
    (∀ (W : WX) (p1 p2 : Pos), (∀ σ' H', Same H H' → RpS H' σ' (some (.raw (.ref f)) :: List.replicate (Ng.length - 1) none) → Told fl H' (fun d H2 => W c d σ' H2)) → EP (trF (bdF P w K mg base Ng x (defScope st) g cdv A outer s H ()) W) H (some (.raw (.ref f)) :: List.replicate (Ng.length - 1) none) (.Call (.Name a p1) [] [] p2) (fun _ => False)) →
    (∀ v H', Same H H' → Rp H' v d → Q v H') →
    WS (bdF P w K mg base Ng x (defScope st) g cdv A outer s H) H (some (.raw (.ref f)) :: List.replicate (Ng.length - 1) none) (defBody st) { nx := fun _ H' => Q .non H', rt := Q }
theorem ev_thunk {L : LW} {ds : List PyData} {c : Value} {fl : Option (List (Str × PyData))} {d : PyData} {qn : I → Str} {cl : I → List (Str × Addr)} (hA : ∀ i, At (X i) P w K mg base (k + 2)) (D : Df K mg x st [a]) (Sg : FnScope Ng [a] (defScope st)) (hN0 : Ng[0]? = some a) (hva : Vis (defScope st) a) (hw : Words P w K mg base (k + 1) x a st Ng c fl d)
    (ok : LWok L) (ra : Rai P w K mg base k L ds c fl) (hC : ∀ i pins σ H s, Inv (X i) pins σ H s → Same H0 H → RpS H σ ρ → ∃ ws : List V, CellsAt (cl i) L.fr (ws.map some) s.heap H ∧ RpA H ws ds)
    (ha : ∀ i σ H, Same H0 H → RpS H σ ρ → ∀ (H1 : Hp) (Q : VK), Same H H1 → (∀ f H2, Same H1 H2 → LamL H2 f L (qn i) (cl i) → Q (.ref f) H2) → uE (fun _ : Unit => X i) e σ H1 Q)
    (hg : ∀ i, Gl (X i) x := by intro _; rfl) (hdb : (x == ("__debug__" : Str)) = false := by decide) (had : (a == ("__debug__" : Str)) = false := by decide) (hac : (a == ("__classdict__" : Str)) = false := by decide)
    (hs : ∀ i, starEach [e] (X i).env = (false, eval e (X i).env) :: starEach [] (X i).env := by intro _; rfl) (hpl : ∀ i, (backTo pos (starEach [] (X i).env)).any (·.1) = false := by intro _; rfl) :
    EV X H0 ρ (.Call (.Name x p) [e] [] pos) d := .mk fun σ H s r H1 Q s1 qq => by
  obtain ⟨g, fd, F, hm, hb⟩ := D
  have hk := F.kp
  obtain ⟨oc, od, kV, doc, pm, an, cdv, ct, osl, rfl, lk, hcd⟩ := F.ex
  refine ⟨fun σ H Q => Same H0 H ∧ RpS H σ ρ ∧ ∀ v H', Same H H' → Rp H' v d → Q v H', fun i => ?_, s.trans s1, r.mono s1, fun v H' s' r' => qq v H' _ s' r' rfl⟩
  clear qq s1 s r
  refine ⟨fun pins s σ H Q J h => ?_⟩
  obtain ⟨s0, rs, fin⟩ := h
  obtain ⟨rfl, rfl, rfl, rfl, rfl, _, hr⟩ := hA i
  refine wpAny_Call_Name_kw (ld_glob J (hg i) hm ?_ hdb)
  refine PySem.W.callWith_K (h₀ := (X i).base) J.ok.mod.kin hk (thn ((pa_cons (pe_u (X := fun _ : Unit => X i) ()) pa_nil (hs i)).run pos pins s σ H (fun vs H1 => match vs with
    | [v] => Same H H1 ∧ ∃ f, v = .ref f ∧ LamL H1 f L (qn i) (cl i)
    | _ => False) J (ha i σ H s0 rs H _ (Same.refl H) fun f H2 s2 lam => ⟨s2, f, rfl, lam⟩)) fun us s1 ⟨vs, H1, I1, r, q⟩ => ⟨I1.kIn, ?_⟩) (hs i) (hpl i)
  match vs, r, q with
  | [v], r, q =>
    obtain ⟨sm, f, rfl, ⟨c', lam⟩⟩ := q
    obtain rfl := Vals.ref1 r
    have rs := rs.mono sm
    have s0 := s0.trans sm
    have fin : ∀ v H', Same H1 H' → Rp H' v d → Q v H' := fun v H' s' => fin v H' (sm.trans s')
    obtain ⟨ws, C, rws⟩ := hC i _ _ _ _ I1 s0 rs
    have rc : codeAny (model (X i).prog (X i).w) (X i).A (.call (.ref g) ⟨[.ref f], []⟩) (CR CX0 (X i).stack (X i).prog (X i).w H1 s1 Q E0) s1 := by
      refine LamX.run_ofS (N := Ng) (ps := [a]) (us := [.ref f]) (vs := [.ref f]) lk hcd Sg hr I1.env0 (by have z := hb s1 [.ref f] I1.kIn rfl; exact z) (.cons rfl .nil) rfl fun hr' => ?_
      have z := (hw g cdv (X i).A (X i).stack s1 H1 Q f (fun _ => ⟨rfl, rfl, rfl, rfl, rfl, rfl, hr'⟩) ⟨Sg.nd, fun _ => rfl, fun _ => rfl⟩ (fun W p1 p2 tw => ?_) fin).run (start Ng [.ref f]) H1 (Same.refl H1) ?_
      · obtain ⟨t', ht', hq'⟩ := z
        exact ⟨t', (ht' ()).nox, hq'⟩
      · refine .mk fun σZ HZ sZ rZ H2 Q2 s2 q2 => ⟨_, fun i' => pe_act (CXg := CX0) (Eg := E0) (q := qn i) (f := f) (c' := c') (ws := ws.map some) (i := 0) ok.sc ok.bd (by rw [List.length_map]; exact ok.len) C i'.2.1 hr' hN0 hva had hac, ?_⟩
        refine ⟨rZ.getRaw rfl, (lam.mono (sZ.trans s2)), ?_⟩
        exact ((ra (qn i) (cl i) (WE W σZ) H2 ((tw σZ HZ sZ rZ).mono s2)).run _ H2 (Same.refl H2) (lam_start (rws.mono (sZ.trans s2)))) H2 _ (Same.refl H2) fun _ _ _ _ _ f => f.elim
      · refine ⟨by simp [L2.start], fun j => ?_⟩
        cases j with
        | zero => rfl
        | succ j =>
          rw [List.getElem?_cons_succ, List.getElem?_replicate]
          split <;> trivial
    refine wpAny_call (codeAny_mono rc fun r s2 hq => ?_)
    cases r with
    | error e => exact (show False from hq).elim
    | ok fl =>
      cases fl with
      | ret u => exact I1.after hq
      | next => exact False.elim hq
      | brk => exact False.elim hq
      | cont => exact False.elim hq
end
end SW

set_option Elab.async false
set_option linter.all false
set_option maxRecDepth 100000
set_option maxHeartbeats 2000000
/-! SwRt: a def's promise to raise, with or without fields; expressions that do not come to their end; xs.index(d). -/
namespace SW
open PySem
open L2 hiding Same
variable [Nm]
abbrev PreT := List PyData → Value → Option (List (Str × PyData)) → Prop
/-- such arguments: it raises an exception of the class c with the fields fl -/
def spT (pre : PreT) (n : Nat) : Sp := fun vs H _ E => vs.length = n ∧ ∃ ds c fl, RpA H vs ds ∧ pre ds c fl ∧ Told fl H fun d H' => E c d H'
section
variable {P : Program} {w : World} {K : PySem.W.Frag} {mg : Str → Option Value} {base : Heap} {k : Nat} {x : Str} {ps : List Str}
theorem Df.fnT {pre : PreT} {st : Stmt} {N : List Str} (D : Df K mg x st ps) (S : FnScope N ps (defScope st))
    (h : ∀ (f : Addr) (cdv : Value) (A : Around) (outer : List Env) (s : Shared) (H1 H0 : Hp) (Q : VK) (E : XK) (ds : List PyData) (c : Value) (fl : Option (List (Str × PyData))), (∀ i, At (bdX P w K mg base N x (defScope st) f cdv A outer s H1 E i) P w K mg base k) → Sc (bdX P w K mg base N x (defScope st) f cdv A outer s H1 E) N (defScope st) →
      (∀ i, Takes (bdX P w K mg base N x (defScope st) f cdv A outer s H1 E i) (fun cls d _ H => E cls d H)) → pre ds c fl → ds.length = ps.length → Told fl H0 (fun d H' => E c d H') →
      WS (bdX P w K mg base N x (defScope st) f cdv A outer s H1 E) H0 ((ds.map fun d => some (SD.dat d)) ++ List.replicate (N.length - ps.length) none) (defBody st) { nx := fun _ H' => Q .non H', rt := Q }) : FnX P w K mg base (k + 1) x ps (spT pre ps.length) := by
  obtain ⟨f, fd, F, hm, hb⟩ := D
  refine ⟨f, fd, ?_, hm, F.kp, hb⟩
  refine Fun.okX F S (fun vs H Q E h => h.1) fun cdv A outer s H vs Q E hr hs => ?_
  obtain ⟨hl, ds, c, fl, ra, hp, q⟩ := hs
  have r := ra.start (N.length - vs.length)
  have z := (h f cdv A outer s H H Q E ds c fl (fun _ => ⟨rfl, rfl, rfl, rfl, rfl, rfl, hr⟩) ⟨S.nd, fun _ => rfl, fun _ => rfl⟩ (fun _ => takes_of rfl rfl rfl rfl) hp (by rw [← ra.length]; exact hl) q).run (start N vs) H (Same.refl H) (by rw [← hl]; exact r)
  obtain ⟨t, p, q⟩ := z
  exact ⟨t, p (), q⟩
theorem FnX.imp {sp sp' : Sp} (F : FnX P w K mg base k x ps sp) (h : ∀ vs H Q E, sp' vs H Q E → sp vs H Q E) : FnX P w K mg base k x ps sp' := by
  obtain ⟨f, fd, F, r⟩ := F
  exact ⟨f, fd, F.imp h, r⟩
theorem FnX.ofR {c : Value} {pr : List PyData → Prop} {n : Nat} (F : FnX P w K mg base k x ps (spR c pr n)) : FnX P w K mg base k x ps (spT (fun ds c' fl => pr ds ∧ c' = c ∧ fl = none) n) :=
  F.imp fun vs H Q E ⟨hl, ds, c', fl, ra, ⟨hp, e1, e2⟩, q⟩ => by
    subst e1 e2
    exact ⟨hl, ds, ra, hp, q⟩
theorem FnX.ofRf {c : Value} {pr : List PyData → List (Str × PyData) → Prop} {n : Nat} (F : FnX P w K mg base k x ps (spRf c pr n)) : FnX P w K mg base k x ps (spT (fun ds c' fl => ∃ l, pr ds l ∧ c' = c ∧ fl = some l) n) :=
  F.imp fun vs H Q E ⟨hl, ds, c', fl, ra, ⟨l, hp, e1, e2⟩, q⟩ => by
    subst e1 e2
    exact ⟨hl, ds, l, ra, hp, q⟩
end
section
variable {I : Type} {X : I → Cx} {H0 : Hp} {ρ : Env1} {tg e a b c : Expr} {es rest : List Expr} {pos : Pos} {D : Ends} {sts : List Stmt}
variable {P : Program} {w : World} {K : PySem.W.Frag} {mg : Str → Option Value} {base : Heap} {k : Nat} {x : Str} {p : Pos} {ps : List Str}
/-- f(e, ..), f raises -/
theorem ep_raiseT {pre : PreT} {n : Nat} {ds : List PyData} {c : Value} {fl : Option (List (Str × PyData))} {W : WX} {Φ : PyData → Prop} (hA : ∀ i, At (X i) P w K mg base k) (tk : ∀ i, Takes (X i) W) (hf : FnX P w K mg base k x ps (spT pre n)) (ha : EL X H0 ρ (e :: es) ds) (hp : pre ds c fl)
    (hW : ∀ σ H, Same H0 H → RpS H σ ρ → Told fl H fun d H' => W c d σ H') (hn : ds.length = n := by rfl) (hg : ∀ i, Gl (X i) x := by intro _; rfl) (hdb : (x == ("__debug__" : Str)) = false := by decide)
    (he : ∀ i, starEach (e :: es) (X i).env = (false, eval e (X i).env) :: starEach es (X i).env := by intro _; rfl) (hpl : ∀ i, (backTo pos (starEach es (X i).env)).any (·.1) = false := by intro _; rfl) : EP X H0 ρ (.Call (.Name x p) (e :: es) [] pos) Φ := .mk fun σ H s r H1 Q s1 q => by
  obtain ⟨f, fd, F, hm, hk, hb⟩ := hf
  refine ⟨tCallS (spT pre n) (WE W) (uA X (e :: es)), fun i => ?_, ?_⟩
  rotate_left
  · exact ha σ H s r H1 _ s1 fun vs H2 ds' s2 rr e1 => by
      subst e1
      exact ⟨by rw [rr.length]; exact hn, _, c, fl, rr, hp, (hW σ H s r).mono (s1.trans s2)⟩
  · obtain ⟨rfl, rfl, rfl, rfl, rfl, _, hr⟩ := hA i
    exact pe_callS F hr (hg i) hm hk hb (fun σ => passAt (tk i) σ) (pa_u i) hdb (he i) (hpl i)
/-- f(e, ..), where e does not come to its end -/
theorem ep_argF {sp : Sp} {W : WX} {Φ : PyData → Prop} (hA : ∀ i, At (X i) P w K mg base k) (tk : ∀ i, Takes (X i) W) (hf : FnX P w K mg base k x ps sp) (ha : EP X H0 ρ e (fun _ => False)) (hg : ∀ i, Gl (X i) x := by intro _; rfl) (hdb : (x == ("__debug__" : Str)) = false := by decide)
    (he : ∀ i, starEach (e :: es) (X i).env = (false, eval e (X i).env) :: starEach es (X i).env := by intro _; rfl) (hpl : ∀ i, (backTo pos (starEach es (X i).env)).any (·.1) = false := by intro _; rfl) : EP X H0 ρ (.Call (.Name x p) (e :: es) [] pos) Φ := .mk fun σ H s r H1 Q s1 q => by
  obtain ⟨f, fd, F, hm, hk, hb⟩ := hf
  refine ⟨tCallS sp (WE W) (tCons (uE X e) (uA X es)), fun i => ?_, ha σ H s r H1 _ s1 fun _ _ _ _ _ z => z.elim⟩
  obtain ⟨rfl, rfl, rfl, rfl, rfl, _, hr⟩ := hA i
  exact pe_callS F hr (hg i) hm hk hb (fun σ => passAt (tk i) σ) (pa_cons (pe_u i) (pa_u i) (he i)) hdb (he i) (hpl i)
theorem ep_ixF {Φ : PyData → Prop} (hA : ∀ i, At (X i) P w K mg base k) (ha : EP X H0 ρ a (fun _ => False)) (hp : PlainIx b := by exact fun _ _ => rfl) : EP X H0 ρ (.Subscript a b pos) Φ := .mk fun σ H s r H1 Q s1 q =>
  ⟨_, fun i => pe_ix ((hA i).K ▸ ix_list) (pe_u i) (pe_u i) hp, ha σ H s r H1 _ s1 fun _ _ _ _ _ z => z.elim⟩
theorem ep_eqF {Φ : PyData → Prop} (hA : ∀ i, At (X i) P w K mg base k) (ha : EP X H0 ρ a (fun _ => False)) : EP X H0 ρ (.Compare a [.Eq] [b] pos) Φ := .mk fun σ H s r H1 Q s1 q =>
  ⟨_, fun i => pe_cmpR ((hA i).K ▸ op_eqD (hA i).hu.2) (pe_u i) (pe_u i) (nomark _), ha σ H s r H1 _ s1 fun _ _ _ _ _ z => z.elim⟩
theorem ep_isF {Φ : PyData → Prop} {j : Nat} {p2 : Pos} (ha : EP X H0 ρ a (fun _ => False)) : EP X H0 ρ (.Compare a [.Is] [.Constant .none j p2] pos) Φ := .mk fun σ H s r H1 Q s1 q =>
  ⟨_, fun i => pe_cmp (pc_isN (pe_u i)), ha σ H s r H1 _ s1 fun _ _ _ _ _ z => z.elim⟩
theorem ep_isntF {Φ : PyData → Prop} {j : Nat} {p2 : Pos} (ha : EP X H0 ρ a (fun _ => False)) : EP X H0 ρ (.Compare a [.IsNot] [.Constant .none j p2] pos) Φ := .mk fun σ H s r H1 Q s1 q =>
  ⟨_, fun i => pe_cmp (pc_notN (pe_u i)), ha σ H s r H1 _ s1 fun _ _ _ _ _ z => z.elim⟩
/-- what is not true of any value -/
theorem et_F {Φ : Bool → Prop} (h : EP X H0 ρ e (fun _ => False)) (he : ∀ i whole, isTrue e (X i).env whole = (do let v ← whole; standAt e.pos; holding [v] (truthy v)) := by intro _ _; rfl) : ET X H0 ρ e Φ := et_val (h.mono fun _ z => z.elim) he
/-- xs.index(e) -/
theorem ev_indexL {ds : List PyData} {d z : PyData} {j : Nat} {o : Expr} {p2 p3 : Pos} (hu : ∀ i, (X i).K = K ∧ (X i).A.units + 65 < cLine) (ho : EV X H0 ρ o (.list ds)) (he : EV X H0 ρ e d) (h1 : Shp (.list ds)) (h2 : Shp d) (hj : ds[j]? = some z) (hz : PyData.eqv z d = true) (hno : ∀ (m : Nat) (z' : PyData), m < j → ds[m]? = some z' → PyData.eqv z' d = false)
    (hbase : ∀ i, attributeBase o "index" (X i).env (eval o (X i).env) = eval o (X i).env := by intro _; rfl) (hline : (p2.endLine == p3.line) = true := by rfl)
    (hfew : ∀ i, ((backTo p3 (starEach [e] (X i).env)).all (fun x => !x.1) && (backToKw p3 (keywordEach [] (X i).env)).all (fun x => x.1.isSome) && decide ([e].length + ([] : List Keyword).length + (if ([] : List Keyword).isEmpty then 0 else 1) < 30)) = true := by intro _; rfl)
    (hs : ∀ i, starEach [e] (X i).env = (false, eval e (X i).env) :: starEach [] (X i).env := by intro _; rfl) :
    EV X H0 ρ (.Call (.Attribute o "index" p2) [e] [] p3) (.int (j : Nat)) := .mk fun σ H s r H1 Q s1 q =>
  ⟨tBM K "list" (rIndexD K) (uE X o) (tCons (uE X e) tNil), fun i => by
    have y := pe_bm (X := X i) PySem.F.plainAttrs_list PySem.F.slot_list_index PySem.F.type_list_index (mt_indexD (hu i).2) (pe_u i) (pa_cons (pe_u i) pa_nil (hs i)) (hbase i) (hfew i) hline (hs i) (by rfl)
    rw [(hu i).1] at y
    exact y, ho σ H s r H1 _ s1 fun v H2 x s2 rv e1 => by
      subst e1
      cases rv with
      | @lst a xs _ h t =>
        refine ⟨.inl ⟨rfl, _, SqL.of h⟩, he σ H s r H2 _ (s1.trans s2) fun v2 H3 y s3 rv2 e2 => ?_⟩
        subst e2
        exact ⟨a, v2, y, ds, j, z, rfl, rfl, (Rp.lst (s3 _ _ h) (t.mono s3)).dp (SeqAt.canLay_of_shaped h1), rv2.dp (SeqAt.canLay_of_shaped h2), h1, h2, hj, hz, hno, q _ H3 _ (s2.trans s3) (.int _) rfl⟩⟩
/-! where one knows the memory alone (in an except suite) -/
theorem ev_ixLK {ds : List PyData} {i : Int} {d : PyData} (hK : ∀ i, (X i).K = K) (ha : EV X H0 ρ a (.list ds)) (hb : EV X H0 ρ b (.int i)) (h : atI ds i = some d) (hp : PlainIx b := by exact fun _ _ => rfl) : EV X H0 ρ (.Subscript a b pos) d := .mk fun σ H s r H1 Q s1 q =>
  ⟨_, fun j => pe_ix (hK j ▸ ix_list) (pe_u j) (pe_u j) hp, ha σ H s r H1 _ s1 fun v H2 x s2 r2 e2 => hb σ H s r H2 _ (s1.trans s2) fun w' H3 y s3 r3 e3 => by
    subst e2 e3
    cases r3
    cases r2 with
    | lst hh t =>
      unfold atI at h
      cases e1 : ixN ds.length i with
      | none => rw [e1] at h; cases h
      | some j =>
        rw [e1] at h
        obtain ⟨u, h1, h2⟩ := t.get' (show ds[j]? = some d from h)
        refine ⟨_, _, i, u, rfl, rfl, SqL.of (s3 _ _ hh), ?_, q u H3 d (s2.trans s3) (h2.mono s3) rfl⟩
        unfold atI
        rw [t.length, e1]
        exact h1⟩
theorem ev_countLK {ds : List PyData} {d : PyData} {o : Expr} {p2 p3 : Pos} (hu : ∀ i, (X i).K = K ∧ (X i).A.units + 65 < cLine) (ho : EV X H0 ρ o (.list ds)) (he : EV X H0 ρ e d) (h1 : Shp (.list ds)) (h2 : Shp d)
    (hbase : ∀ i, attributeBase o "count" (X i).env (eval o (X i).env) = eval o (X i).env := by intro _; rfl) (hline : (p2.endLine == p3.line) = true := by rfl)
    (hfew : ∀ i, ((backTo p3 (starEach [e] (X i).env)).all (fun x => !x.1) && (backToKw p3 (keywordEach [] (X i).env)).all (fun x => x.1.isSome) && decide ([e].length + ([] : List Keyword).length + (if ([] : List Keyword).isEmpty then 0 else 1) < 30)) = true := by intro _; rfl)
    (hs : ∀ i, starEach [e] (X i).env = (false, eval e (X i).env) :: starEach [] (X i).env := by intro _; rfl) :
    EV X H0 ρ (.Call (.Attribute o "count" p2) [e] [] p3) (.int ((ds.countP fun z => PyData.eqv z d : Nat) : Int)) := .mk fun σ H s r H1 Q s1 q =>
  ⟨tBM K "list" (rCntD K) (uE X o) (tCons (uE X e) tNil), fun i => by
    have z := pe_bm (X := X i) PySem.F.plainAttrs_list PySem.F.slot_list_count PySem.F.type_list_count (mt_countD (hu i).2) (pe_u i) (pa_cons (pe_u i) pa_nil (hs i)) (hbase i) (hfew i) hline (hs i) (by rfl)
    rw [(hu i).1] at z
    exact z, ho σ H s r H1 _ s1 fun v H2 x s2 rv e1 => by
      subst e1
      cases rv with
      | @lst a xs _ h t =>
        refine ⟨.inl ⟨rfl, _, SqL.of h⟩, he σ H s r H2 _ (s1.trans s2) fun v2 H3 y s3 rv2 e2 => ?_⟩
        subst e2
        exact ⟨a, v2, y, ds, rfl, rfl, (Rp.lst (s3 _ _ h) (t.mono s3)).dp (SeqAt.canLay_of_shaped h1), rv2.dp (SeqAt.canLay_of_shaped h2), h1, h2, q _ H3 _ (s2.trans s3) (.int _) rfl⟩⟩
end
end SW

set_option Elab.async false
set_option linter.all false
set_option maxRecDepth 100000
set_option maxHeartbeats 2000000
/-! SwT: texts: str(i), x + y, sep.join(xs), x.split(sep), f-strings of texts and ints. -/
namespace SW
open PySem
open L2 hiding Same
variable [Nm]
theorem RpA.strs {H : Hp} : ∀ ys : List Str, RpA H (ys.map V.str) (ys.map PyData.str)
  | [] => .nil
  | y :: ys => .cons (.str y) (RpA.strs ys)
theorem RpA.strs_inv {H : Hp} : ∀ {vs : List V} {ys : List Str}, RpA H vs (ys.map PyData.str) → vs = ys.map V.str
  | _, [], .nil => rfl
  | _, y :: ys, .cons h r => by
    cases h
    rw [List.map_cons, r.strs_inv]
section
variable {I : Type} {X : I → Cx} {H0 : Hp} {ρ : Env1} {tg e a b c o : Expr} {es rest : List Expr} {pos : Pos}
variable {P : Program} {w : World} {K : PySem.W.Frag} {mg : Str → Option Value} {base : Heap} {k : Nat} {x : Str} {p : Pos} {ps : List Str} {D : Ends} {sts : List Stmt}
/-- str(i) -/
theorem ev_strI {i : Int} (hA : ∀ i, At (X i) P w K mg base k) (hm : mg "str" = none) (h : EV X H0 ρ e (.int i)) (hz : i.natAbs.log2 < 1920) (hg : ∀ i, Gl (X i) "str" := by intro _; rfl) (ns : ∀ i, starEach (e :: []) (X i).env = (false, eval e (X i).env) :: starEach [] (X i).env := by intro _; rfl) :
    EV X H0 ρ (.Call (.Name "str" p) [e] [] pos) (.str (toString i)) := .mk fun σ H s r =>
  dp_callT hA (fun _ => call_str_int) hm (by decide +kernel) (da1 (h σ H s r) ns) (fun _ ⟨d, e1, e2⟩ => by
    rw [e1, e2]
    intro vs H Q r q
    obtain ⟨v, rfl, rv⟩ := r.one
    cases rv
    exact ⟨i, rfl, hz, q _ H _ (Same.refl _) (.str _) rfl⟩) hg (by decide) (by decide) ns (fun _ => rfl)
/-- x + y -/
theorem ev_catS {x y : Str} (ha : EV X H0 ρ a (.str x)) (hb : EV X H0 ρ b (.str y)) (hz : x.length + y.length ≤ sizeLine) : EV X H0 ρ (.BinOp a .Add b pos) (.str (x ++ y)) := .mk fun σ H s r =>
  de_op2 (fun _ => op_add_str) (fun v w' H Q r1 r2 q => by
    cases r1; cases r2
    exact ⟨x, y, rfl, rfl, hz, q _ H (Same.refl _) (.str _)⟩) (ha σ H s r) (hb σ H s r)
/-- the library's reading of a join -/
def tJoinK (K : PySem.W.Frag) (to te : TE) : TE := tM1 (fun x xs H Q => ∃ (a : Str) (p : Addr), ∃ ys : List Str, x = .str a ∧ xs = [.ref p] ∧ (SqL K H p (ys.map V.str) ∨ SqT K H p (ys.map V.str)) ∧ (ys.map (·.length)).sum + ys.length * a.length ≤ 16777216 ∧ Q (.str (Txt.join a ys)) H) to te
/-- o.join(xs), xs a list -/
theorem ev_join {x : Str} {ys : List Str} {apos : Pos} (hA : ∀ i, At (X i) P w K mg base k) (ho : EV X H0 ρ o (.str x)) (he : EV X H0 ρ e (.list (ys.map .str))) (hz : (ys.map (·.length)).sum + ys.length * x.length ≤ 16777216) (hs : ∀ i, starEach [e] (X i).env = [(false, eval e (X i).env)] := by intro _; rfl)
    (hb : ∀ i, attributeBase o "join" (X i).env (eval o (X i).env) = eval o (X i).env := by intro _; rfl) (hline : (apos.endLine == pos.line) = true := by rfl) : EV X H0 ρ (.Call (.Attribute o "join" apos) [e] [] pos) (.str (Txt.join x ys)) := .mk fun σ H s r H1 Q s1 q =>
  ⟨tJoinK K (uE X o) (uE X e), fun i => (hA i).K ▸ pe_join (pe_u i) (pe_u i) (hs i) (hb i) hline, ho σ H s r H1 _ s1 fun v H2 d s2 rv e1 => by
    subst e1
    cases rv
    refine ⟨⟨x, rfl⟩, he σ H s r H2 _ (s1.trans s2) fun v H3 d s3 rv e1 => ?_⟩
    subst e1
    cases rv with
    | lst h t =>
      rw [t.strs_inv] at h
      exact ⟨x, _, ys, rfl, rfl, .inl (SqL.of h), hz, q _ H3 _ (s2.trans s3) (.str _) rfl⟩⟩
/-- o.split(sep) -/
theorem ev_split {x y : Str} {apos : Pos} (ho : EV X H0 ρ o (.str x)) (he : EV X H0 ρ e (.str y)) (hy : (y.length == 0) = false) (hz : x.length + 2 ≤ sizeLine) (hs : ∀ i, starEach [e] (X i).env = [(false, eval e (X i).env)] := by intro _; rfl)
    (hb : ∀ i, attributeBase o "split" (X i).env (eval o (X i).env) = eval o (X i).env := by intro _; rfl) (hline : (apos.endLine == pos.line) = true := by rfl) : EV X H0 ρ (.Call (.Attribute o "split" apos) [e] [] pos) (.list ((Txt.split x y).map .str)) := .mk fun σ H s r H1 Q s1 q =>
  ⟨_, fun i => pe_split (pe_u i) (pe_u i) (hs i) (hb i) hline, ho σ H s r H1 _ s1 fun v H2 d s2 rv e1 => by
    subst e1
    cases rv
    refine ⟨⟨x, rfl⟩, he σ H s r H2 _ (s1.trans s2) fun v H3 d s3 rv e1 => ?_⟩
    subst e1
    cases rv
    exact ⟨x, y, rfl, rfl, hy, hz, fun p hp => q _ _ _ ((s2.trans s3).trans (same_upd hp)) (.lst upd_same (RpA.strs _)) rfl⟩⟩
/-- f'x{e}y', e an int -/
theorem ev_fstr3 {x y : Str} {i : Int} {j j' : Nat} {q1 q2 q3 : Pos} (he : EV X H0 ρ e (.int i)) (hi : i.natAbs.log2 < 1920) (hz : (((Str.empty ++ x) ++ toString i) ++ y).length ≤ sizeLine) (hz1 : (Str.empty ++ x).length ≤ sizeLine) (hz2 : ((Str.empty ++ x) ++ toString i).length ≤ sizeLine) :
    EV X H0 ρ (.JoinedStr [.Constant (.str x) j q1, .FormattedValue e (-1) none q2, .Constant (.str y) j' q3] pos) (.str (((Str.empty ++ x) ++ toString i) ++ y)) := .mk fun σ H s r H1 Q s1 q =>
  ⟨_, fun i' => pe_joined (.cons pe_str (.cons (pe_fmt (pe_u i')) (.cons pe_str .nil))), x, rfl, hz1, he σ H s r H1 _ s1 fun v H2 d s2 rv e1 => by
    subst e1
    cases rv
    exact .inr ⟨i, rfl, hi, toString i, rfl, hz2, y, rfl, hz, q _ H2 _ s2 (.str _) rfl⟩⟩
end
end SW

set_option Elab.async false
set_option linter.all false
set_option maxRecDepth 100000
set_option maxHeartbeats 2000000
/-! SwR: raise x(e); f'x{e}y{e2}'; i << k; comb. -/
namespace SW
open PySem PySem.Spec PyProof.Rows
open L2 hiding Same
variable [Nm]
section
variable {X : Cx} {C : Addr} {B newId initId : String} {bmB : List Value} {x : Str} {e : Expr} {te : TE} {p pos : Pos}
/-- an exception class without a body, called with any one value -/
theorem pmk_ownE (F : ExcBaseFacts B newId initId bmB) (q : PySem.W.excIn X.K C bmB newId = true) (gC : X.mg x = some (.ref C)) (kC : PySem.W.keepIn X.K (.ref C) = true) (r : Raises X (.ref C)) (hg : Gl X x) (he : PE X e te)
    (hs : starEach [e] X.env = (false, eval e X.env) :: starEach [] X.env := by rfl) (hpl : (backTo pos (starEach [] X.env)).any (·.1) = false := by rfl) (hdb : (x == ("__debug__" : Str)) = false := by decide) :
    PMk X (.Call (.Name x p) [e] [] pos) (fun σ H Q => te σ H fun v H1 => [v].length = 1 ∧ Q (.ref C) none H1) := by
  intro pins s σ H Q I h
  refine wpAny_Call_Name_kw (ld_glob I hg gC ?_ hdb)
  refine PySem.W.callWith_K (h₀ := X.base) I.ok.mod.kin kC (thn ((pa_cons he pa_nil hs).run pos pins s σ H (fun vs H1 => vs.length = 1 ∧ Q (.ref C) none H1) I h) fun us s1 hh => ?_) hs hpl
  obtain ⟨vs, H1, I1, r1, hl, qq⟩ := hh
  refine ⟨I1.kIn, ?_⟩
  match vs, us, r1 with
  | [v], [u], r1 =>
    show wpAny _ _ (call (.ref C) [u]) _ _ _
    obtain ⟨bm, N, nm, qn, bs, hdct, sn, sub, ab, col, dd, k0, k1, k2, k3, k5, mN, hC, hN, hni, T⟩ := exc_obj I1.kIn q
    exact wpAny_call_exc_subT F T hC hN hni (fun h' e hm => mk_of I1 hm r qq (I1.hok.gone hm.new)) (by show 1 ≤ sizeLine; rw [sizeLine_eq]; omega)
  | [], _, _ => cases hl
  | _ :: _ :: _, _, _ => cases hl
  | [_], [], r1 => cases r1
  | [_], _ :: _ :: _, r1 => cases r1 with | cons _ t => cases t
end
section
variable {I : Type} {X : I → Cx} {H0 : Hp} {ρ : Env1} {e e' a b : Expr} {sts : List Stmt} {D : Ends} {pos p : Pos}
variable {P : Program} {w : World} {K : PySem.W.Frag} {mg : Str → Option Value} {base : Heap} {k : Nat} {x : Str}
/-- raise x(e) -/
theorem ws_raiseE {c : Value} {W : WX} {d : PyData} {pos' : Pos} (hA : ∀ i, At (X i) P w K mg base k) (tk : ∀ i, Takes (X i) W) (F : ExF K mg x c) (he : EV X H0 ρ e d) (hW : ∀ σ H, Same H0 H → RpS H σ ρ → W c none σ H)
    (hg : ∀ i, Gl (X i) x := by intro _; rfl) (hs : ∀ i, starEach [e] (X i).env = (false, eval e (X i).env) :: starEach [] (X i).env := by intro _; rfl) (hpl : ∀ i, (backTo p (starEach [] (X i).env)).any (·.1) = false := by intro _; rfl) (hdb : (x == ("__debug__" : Str)) = false := by decide) :
    WS X H0 ρ (.Raise (some (.Call (.Name x pos) [e] [] p)) none pos' :: sts) D := .mk fun σ H s r => by
  obtain ⟨C, bmB, B, n1, n2, rfl, h1, h2, h3, h4, h5, h6⟩ := F.ex
  refine wb_cons (t := fun _ σ H => (fun σ H Q => uE X e σ H fun v H1 => [v].length = 1 ∧ Q (.ref C) none H1) σ H fun cls d H' => W cls d σ H') (fun i => ?_) (he σ H s r H _ (Same.refl H) fun v H1 d' s1 _ _ => ⟨rfl, hW σ H1 (s.trans s1) (r.mono s1)⟩)
  have pu := pe_u (X := X) (e := e) i
  have g := hg i
  have s' := hs i
  have pl := hpl i
  have tk' := tk i
  obtain ⟨e1, e2, e3, e4, e5, hc, hr⟩ := hA i
  refine ps_raise hc tk' (pmk_ownE h1 (by rw [e3]; exact h2) (by rw [e4]; exact h3) (by rw [e3]; exact h4) (raises_own (by rw [e3]; exact h5) (by rw [e3]; exact h6)) g pu s' pl hdb)
/-- f'x{e}y{e2}', ints -/
theorem ev_fstr4 {y z : Str} {i i' : Int} {j j' : Nat} {q1 q2 q3 q4 : Pos} (he : EV X H0 ρ e (.int i)) (he' : EV X H0 ρ e' (.int i')) (hi : i.natAbs.log2 < 1920) (hi' : i'.natAbs.log2 < 1920)
    (hz1 : (Str.empty ++ y).length ≤ sizeLine) (hz2 : ((Str.empty ++ y) ++ toString i).length ≤ sizeLine) (hz3 : (((Str.empty ++ y) ++ toString i) ++ z).length ≤ sizeLine) (hz4 : ((((Str.empty ++ y) ++ toString i) ++ z) ++ toString i').length ≤ sizeLine) :
    EV X H0 ρ (.JoinedStr [.Constant (.str y) j q1, .FormattedValue e (-1) none q2, .Constant (.str z) j' q3, .FormattedValue e' (-1) none q4] pos) (.str ((((Str.empty ++ y) ++ toString i) ++ z) ++ toString i')) := .mk fun σ H s r H1 Q s1 q =>
  ⟨_, fun i' => pe_joined (.cons pe_str (.cons (pe_fmt (pe_u i')) (.cons pe_str (.cons (pe_fmt (pe_u i')) .nil)))), y, rfl, hz1, he σ H s r H1 _ s1 fun v H2 d s2 rv e1 => by
    subst e1
    cases rv
    refine .inr ⟨i, rfl, hi, toString i, rfl, hz2, z, rfl, hz3, he' σ H s r H2 _ (s1.trans s2) fun v H3 d s3 rv e1 => ?_⟩
    subst e1
    cases rv
    exact .inr ⟨i', rfl, hi', toString i', rfl, hz4, q _ H3 _ (s2.trans s3) (.str _) rfl⟩⟩
/-- i << k -/
theorem ev_shl {i : Int} {j : Nat} (ha : EV X H0 ρ a (.int i)) (hb : EV X H0 ρ b (.int (j : Int))) (hi : i.natAbs < 2 ^ 1000) (hj : j ≤ 1000) : EV X H0 ρ (.BinOp a .LShift b pos) (.int (i * 2 ^ j)) := .mk fun σ H s r =>
  de_op2 (fun _ => op_shlN) (fun v w' H Q r1 r2 q => by
    cases r1; cases r2
    exact ⟨i, j, rfl, rfl, shl_ok hi (by omega), q _ H (Same.refl _) (.int _)⟩) (ha σ H s r) (hb σ H s r)
end
section
variable {X : Cx}
def rComb : List V → Hp → VK → Prop := fun vs H Q => ∃ a b : Int, vs = [.int a, .int b] ∧ 0 ≤ a ∧ a ≤ 1000 ∧ 0 ≤ b ∧ b ≤ 1000 ∧ Q (.int (PySem.W.mcComb a b)) H
theorem cr_comb : CallR X (.builtin "math.comb") rComb := by
  intro pins s σ H vs us Q I r h
  obtain ⟨a, b, rfl, a0, a1, b0, b1, q⟩ := h
  obtain ⟨t, u, rfl⟩ := Vals.int2 r
  exact PySem.W.mc_comb a0 b0 (by omega) (.inl (by omega)) fun _ => ⟨.int _, H, I.tok _, ⟨_, rfl⟩, q⟩
end
section
variable {I : Type} {X : I → Cx} {H0 : Hp} {ρ : Env1} {a b : Expr} {pos p : Pos}
variable {P : Program} {w : World} {K : PySem.W.Frag} {mg : Str → Option Value} {base : Heap} {k : Nat}
theorem ev_comb {i j : Int} (hA : ∀ i, At (X i) P w K mg base k) (hm : mg "comb" = some (.builtin "math.comb")) (ha : EV X H0 ρ a (.int i)) (hb : EV X H0 ρ b (.int j)) (hi : 0 ≤ i ∧ i ≤ 1000) (hj : 0 ≤ j ∧ j ≤ 1000) (hg : ∀ i, Gl (X i) "comb" := by intro _; rfl)
    (hs : ∀ i, starEach [a, b] (X i).env = (false, eval a (X i).env) :: starEach [b] (X i).env := by intro _; rfl) (hs' : ∀ i, starEach [b] (X i).env = (false, eval b (X i).env) :: starEach [] (X i).env := by intro _; rfl)
    (hpl : ∀ i, (backTo pos (starEach [b] (X i).env)).any (·.1) = false := by intro _; rfl) : EV X H0 ρ (.Call (.Name "comb" p) [a, b] [] pos) (.int (PySem.W.mcComb i j)) := .mk fun σ H s r H1 Q s1 q =>
  ⟨_, fun i => pe_callBfun cr_comb (hg i) (by rw [(hA i).mg]; exact hm) (pa_u i) (by decide) (hs i) (hpl i), dl_cons (ha σ H s r) (dl_cons (hb σ H s r) da_nil hs') hs H1 _ s1 fun vs H2 ds s2 rr e1 => by
    subst e1
    obtain ⟨v, v', rfl, r1, r2⟩ := rr.two
    cases r1; cases r2
    exact ⟨i, j, rfl, hi.1, hi.2, hj.1, hj.2, q _ H2 _ s2 (.int _) rfl⟩⟩
end
end SW

set_option Elab.async false
set_option linter.all false
set_option maxRecDepth 100000
set_option maxHeartbeats 1000000
/-! Skd1: what the defs raise at values that are no webs, no nets, no factors. -/
namespace SK
open PySem SW
open L2 hiding Same
local macro_rules | `(tactic| walk_at "v") => `(tactic| first | exact ev_var (fun _ => pv 0) rfl | exact ev_var (fun _ => pv 1) rfl | exact ev_var (fun _ => pv 2) rfl)
section
variable {P : Program} {w : World} {K : PySem.W.Frag} {mg : Str → Option Value} {base : Heap} {B : PyData → Value → Option (List (Str × PyData)) → Prop}
def partL (w : Str) : List (Str × PyData) := [((Str.ofString "part"), .str w)]
/-- no web: the error and its field -/
def WBad (C : Addr) (d : PyData) (c : Value) (fl : Option (List (Str × PyData))) : Prop := wrongWeb d ≠ "" ∧ c = .ref C ∧ fl = some (partL (wrongWeb d))
def NBad (C : Addr) (d : PyData) (c : Value) (fl : Option (List (Str × PyData))) : Prop := wrongNet d ≠ "" ∧ c = .ref C ∧ fl = some (partL (wrongNet d))
def pre1 (B : PyData → Value → Option (List (Str × PyData)) → Prop) : PreT := fun ds c fl => ∃ d, ds = [d] ∧ B d c fl
def preF (B : PyData → Value → Option (List (Str × PyData)) → Prop) : PreT := fun ds c fl => ∃ d x, ds = [d, x] ∧ B d c fl
abbrev Tck (P : Program) (w : World) (K : PySem.W.Frag) (mg : Str → Option Value) (base : Heap) (k : Nat) (x : Str) (B : PyData → Value → Option (List (Str × PyData)) → Prop) : Prop := FnX P w K mg base k x ["value"] (spT (pre1 B) 1)
theorem tx_check_web (T : Tx K mg) {C : Addr} (I : PartE P w K mg base "BadWeb" C) (g : Fn P w K mg base 3 "wrong_in_web" ["value"] (spE f_wrong_in_web 1)) : Tck P w K mg base 4 "check_web" (WBad C) :=
  (fx_check_web T I g).ofRf.imp fun vs H Q E ⟨hl, ds, c, fl, ra, ⟨d, e, h1, h2, h3⟩, q⟩ => ⟨hl, ds, c, fl, ra, ⟨_, ⟨d, e, h1, rfl⟩, h2, h3⟩, q⟩
theorem part_BadNet (T : Tx K mg) : ∃ C, PartE P w K mg base "BadNet" C := by
  obtain ⟨C, fI, fd, oex, xf, hm, h1, h2, F, b, hn⟩ := T.i_BadNet
  have n1 := hn "part" List.mem_cons_self
  refine ⟨C, ⟨oex, xf, hm, fI, fd, ["self", "part"], h1, h2, ?_, b⟩, n1⟩
  exact fn_init1 F oex n1 (N := ["self", "part"]) ⟨rfl, rfl, rfl, by decide +kernel, rfl, by decide +kernel, by decide +kernel⟩ rfl (fun _ _ _ _ _ _ => pv 0) (fun _ _ _ _ _ _ => pv 1) (fun _ _ _ _ _ _ => rfl)
theorem tx_check_net (T : Tx K mg) {C : Addr} (I : PartE P w K mg base "BadNet" C) (g : Gwn P w K mg base) : Tck P w K mg base 5 "check_net" (NBad C) := by
  refine T.d_check_net.fnT (N := ["value", "wrong"]) ⟨rfl, rfl, rfl, by decide +kernel, rfl, by decide +kernel, by decide +kernel⟩ fun f cdv A outer s H1 H0 Q E ds c fl hA S tk hp hl q => ?_
  obtain ⟨d, rfl, hne, rfl, rfl⟩ := hp
  refine ws_set (i := 1) (ev_call hA g (el1 (by walk_at "v")) (d := .str (wrongNet d)) rfl) S fun x e => ?_
  subst e
  refine ws_ifr (b := true) (EB.to (eb_neS (by walk_at "v") ev_str) (by rw [decide_eq_false hne] <;> rfl)) (fun _ => ?_) fun e => by cases e
  exact ws_raiseI1 (k := 2) (fun i => (hA i).mono (by decide)) tk I.1 (by walk_at "v") fun σ H dd fs s r h1 h2 => q H dd fs s h1 h2

theorem tx_ways (T : Tx K mg) (g : Tck P w K mg base 4 "check_web" B) : FnX P w K mg base 5 "ways" ["web"] (spT (pre1 B) 1) := by
  refine T.d_ways.fnT (N := ["web"]) ⟨rfl, rfl, rfl, by decide +kernel, rfl, by decide +kernel, by decide +kernel⟩ fun f cdv A outer s H1 H0 Q E ds c fl hA S tk hp hl q => ?_
  obtain ⟨d, rfl, hb⟩ := hp
  exact ws_exprF (ep_raiseT hA tk (g.up (by decide)) (el1 (by walk_at "v")) ⟨d, rfl, hb⟩ fun σ H s r => q.mono s)
theorem tx_multiples (T : Tx K mg) (g : Tck P w K mg base 4 "check_web" B) : FnX P w K mg base 5 "multiples" ["web"] (spT (pre1 B) 1) := by
  refine T.d_multiples.fnT (N := ["web"]) ⟨rfl, rfl, rfl, by decide +kernel, rfl, by decide +kernel, by decide +kernel⟩ fun f cdv A outer s H1 H0 Q E ds c fl hA S tk hp hl q => ?_
  obtain ⟨d, rfl, hb⟩ := hp
  exact ws_exprF (ep_raiseT hA tk (g.up (by decide)) (el1 (by walk_at "v")) ⟨d, rfl, hb⟩ fun σ H s r => q.mono s)
theorem tx_turned (T : Tx K mg) (g : Tck P w K mg base 4 "check_web" B) : FnX P w K mg base 5 "turned" ["web"] (spT (pre1 B) 1) := by
  refine T.d_turned.fnT (N := ["web"]) ⟨rfl, rfl, rfl, by decide +kernel, rfl, by decide +kernel, by decide +kernel⟩ fun f cdv A outer s H1 H0 Q E ds c fl hA S tk hp hl q => ?_
  obtain ⟨d, rfl, hb⟩ := hp
  exact ws_exprF (ep_raiseT hA tk (g.up (by decide)) (el1 (by walk_at "v")) ⟨d, rfl, hb⟩ fun σ H s r => q.mono s)
theorem tx_net_of (T : Tx K mg) (g : Tck P w K mg base 4 "check_web" B) : FnX P w K mg base 5 "net_of" ["web"] (spT (pre1 B) 1) := by
  refine T.d_net_of.fnT (N := ["web"]) ⟨rfl, rfl, rfl, by decide +kernel, rfl, by decide +kernel, by decide +kernel⟩ fun f cdv A outer s H1 H0 Q E ds c fl hA S tk hp hl q => ?_
  obtain ⟨d, rfl, hb⟩ := hp
  exact ws_exprF (ep_raiseT hA tk (g.up (by decide)) (el1 (by walk_at "v")) ⟨d, rfl, hb⟩ fun σ H s r => q.mono s)
theorem tx_keepers (T : Tx K mg) (g : Tck P w K mg base 4 "check_web" B) : FnX P w K mg base 5 "keepers" ["web"] (spT (pre1 B) 1) := by
  refine T.d_keepers.fnT (N := ["web"]) ⟨rfl, rfl, rfl, by decide +kernel, rfl, by decide +kernel, by decide +kernel⟩ fun f cdv A outer s H1 H0 Q E ds c fl hA S tk hp hl q => ?_
  obtain ⟨d, rfl, hb⟩ := hp
  exact ws_exprF (ep_raiseT hA tk (g.up (by decide)) (el1 (by walk_at "v")) ⟨d, rfl, hb⟩ fun σ H s r => q.mono s)
theorem tx_count_plain (T : Tx K mg) (g : Tck P w K mg base 4 "check_web" B) : FnX P w K mg base 5 "count_plain" ["web"] (spT (pre1 B) 1) := by
  refine T.d_count_plain.fnT (N := ["web"]) ⟨rfl, rfl, rfl, by decide +kernel, rfl, by decide +kernel, by decide +kernel⟩ fun f cdv A outer s H1 H0 Q E ds c fl hA S tk hp hl q => ?_
  obtain ⟨d, rfl, hb⟩ := hp
  exact ws_exprF (ep_raiseT hA tk (g.up (by decide)) (el1 (by walk_at "v")) ⟨d, rfl, hb⟩ fun σ H s r => q.mono s)
theorem tx_symmetries (T : Tx K mg) (g : Tck P w K mg base 4 "check_web" B) : FnX P w K mg base 5 "symmetries" ["web"] (spT (pre1 B) 1) := by
  refine T.d_symmetries.fnT (N := ["web"]) ⟨rfl, rfl, rfl, by decide +kernel, rfl, by decide +kernel, by decide +kernel⟩ fun f cdv A outer s H1 H0 Q E ds c fl hA S tk hp hl q => ?_
  obtain ⟨d, rfl, hb⟩ := hp
  exact ws_exprF (ep_raiseT hA tk (g.up (by decide)) (el1 (by walk_at "v")) ⟨d, rfl, hb⟩ fun σ H s r => q.mono s)
theorem tx_write_web (T : Tx K mg) (g : Tck P w K mg base 4 "check_web" B) : FnX P w K mg base 5 "write_web" ["web"] (spT (pre1 B) 1) := by
  refine T.d_write_web.fnT (N := ["web"]) ⟨rfl, rfl, rfl, by decide +kernel, rfl, by decide +kernel, by decide +kernel⟩ fun f cdv A outer s H1 H0 Q E ds c fl hA S tk hp hl q => ?_
  obtain ⟨d, rfl, hb⟩ := hp
  exact ws_exprF (ep_raiseT hA tk (g.up (by decide)) (el1 (by walk_at "v")) ⟨d, rfl, hb⟩ fun σ H s r => q.mono s)
theorem tx_times (T : Tx K mg) (g : Tck P w K mg base 4 "check_web" B) : FnX P w K mg base 5 "times" ["web", "factor"] (spT (preF B) 2) := by
  refine T.d_times.fnT (N := ["web", "factor"]) ⟨rfl, rfl, rfl, by decide +kernel, rfl, by decide +kernel, by decide +kernel⟩ fun f cdv A outer s H1 H0 Q E ds c fl hA S tk hp hl q => ?_
  obtain ⟨d, x, rfl, hb⟩ := hp
  exact ws_exprF (ep_raiseT hA tk (g.up (by decide)) (el1 (by walk_at "v")) ⟨d, rfl, hb⟩ fun σ H s r => q.mono s)
theorem tx_is_even (T : Tx K mg) (g : Tck P w K mg base 5 "check_net" B) : FnX P w K mg base 6 "is_even" ["net"] (spT (pre1 B) 1) := by
  refine T.d_is_even.fnT (N := ["net"]) ⟨rfl, rfl, rfl, by decide +kernel, rfl, by decide +kernel, by decide +kernel⟩ fun f cdv A outer s H1 H0 Q E ds c fl hA S tk hp hl q => ?_
  obtain ⟨d, rfl, hb⟩ := hp
  exact ws_exprF (ep_raiseT hA tk (g.up (by decide)) (el1 (by walk_at "v")) ⟨d, rfl, hb⟩ fun σ H s r => q.mono s)
theorem tx_count_symmetries (T : Tx K mg) (g : Tck P w K mg base 5 "check_net" B) : FnX P w K mg base 6 "count_symmetries" ["net"] (spT (pre1 B) 1) := by
  refine T.d_count_symmetries.fnT (N := ["net"]) ⟨rfl, rfl, rfl, by decide +kernel, rfl, by decide +kernel, by decide +kernel⟩ fun f cdv A outer s H1 H0 Q E ds c fl hA S tk hp hl q => ?_
  obtain ⟨d, rfl, hb⟩ := hp
  exact ws_exprF (ep_raiseT hA tk (g.up (by decide)) (el1 (by walk_at "v")) ⟨d, rfl, hb⟩ fun σ H s r => q.mono s)
theorem tx_steps_along (T : Tx K mg) (g : Tck P w K mg base 5 "check_net" B) : FnX P w K mg base 6 "steps_along" ["net", "order"] (spT (preF B) 2) := by
  refine T.d_steps_along.fnT (N := ["net", "order"]) ⟨rfl, rfl, rfl, by decide +kernel, rfl, by decide +kernel, by decide +kernel⟩ fun f cdv A outer s H1 H0 Q E ds c fl hA S tk hp hl q => ?_
  obtain ⟨d, x, rfl, hb⟩ := hp
  exact ws_exprF (ep_raiseT hA tk (g.up (by decide)) (el1 (by walk_at "v")) ⟨d, rfl, hb⟩ fun σ H s r => q.mono s)
theorem tx_least_multiple (T : Tx K mg) (g : FnX P w K mg base 5 "multiples" ["web"] (spT (pre1 B) 1)) : FnX P w K mg base 6 "least_multiple" ["web"] (spT (pre1 B) 1) := by
  refine T.d_least_multiple.fnT (N := ["web"]) ⟨rfl, rfl, rfl, by decide +kernel, rfl, by decide +kernel, by decide +kernel⟩ fun f cdv A outer s H1 H0 Q E ds c fl hA S tk hp hl q => ?_
  obtain ⟨d, rfl, hb⟩ := hp
  exact ws_ret (Φ := fun _ => False) (ep_ixF hA (ep_raiseT hA tk (g.up (by decide)) (el1 (by walk_at "v")) ⟨d, rfl, hb⟩ fun σ H s r => q.mono s)) fun _ _ _ _ _ f => f.elim
theorem tx_is_two_way (T : Tx K mg) (g : FnX P w K mg base 5 "turned" ["web"] (spT (pre1 B) 1)) : FnX P w K mg base 6 "is_two_way" ["web"] (spT (pre1 B) 1) := by
  refine T.d_is_two_way.fnT (N := ["web"]) ⟨rfl, rfl, rfl, by decide +kernel, rfl, by decide +kernel, by decide +kernel⟩ fun f cdv A outer s H1 H0 Q E ds c fl hA S tk hp hl q => ?_
  obtain ⟨d, rfl, hb⟩ := hp
  exact ws_ret (Φ := fun _ => False) (ep_eqF hA (ep_raiseT hA tk (g.up (by decide)) (el1 (by walk_at "v")) ⟨d, rfl, hb⟩ fun σ H s r => q.mono s)) fun _ _ _ _ _ f => f.elim
theorem tx_ring (T : Tx K mg) (g : FnX P w K mg base 6 "is_even" ["net"] (spT (pre1 B) 1)) : FnX P w K mg base 7 "ring" ["net"] (spT (pre1 B) 1) := by
  refine T.d_ring.fnT (N := ["net"]) ⟨rfl, rfl, rfl, by decide +kernel, rfl, by decide +kernel, by decide +kernel⟩ fun f cdv A outer s H1 H0 Q E ds c fl hA S tk hp hl q => ?_
  obtain ⟨d, rfl, hb⟩ := hp
  exact ws_if (Φ := fun _ => False) (ET.mono (et_not (et_F (Φ := fun _ => False) (ep_raiseT hA tk (g.up (by decide)) (el1 (by walk_at "v")) ⟨d, rfl, hb⟩ fun σ H s r => q.mono s))) fun _ z => z) (fun z => z.elim) fun z => z.elim
theorem tx_is_plain {C : PreT} (T : Tx K mg) (g : FnX P w K mg base 5 "net_of" ["web"] (spT (pre1 B) 1)) (g2 : FnX P w K mg base 6 "count_symmetries" ["net"] (spT C 1)) : FnX P w K mg base 7 "is_plain" ["web"] (spT (pre1 B) 1) := by
  refine T.d_is_plain.fnT (N := ["web"]) ⟨rfl, rfl, rfl, by decide +kernel, rfl, by decide +kernel, by decide +kernel⟩ fun f cdv A outer s H1 H0 Q E ds c fl hA S tk hp hl q => ?_
  obtain ⟨d, rfl, hb⟩ := hp
  exact ws_ret (Φ := fun _ => False) (ep_eqF hA (ep_argF hA tk g2 (ep_raiseT hA tk (g.up (by decide)) (el1 (by walk_at "v")) ⟨d, rfl, hb⟩ fun σ H s r => q.mono s))) fun _ _ _ _ _ f => f.elim
theorem tx_shows_ring (T : Tx K mg) (g : FnX P w K mg base 7 "ring" ["net"] (spT (pre1 B) 1)) : FnX P w K mg base 8 "shows_ring" ["net", "value"] (spT (fun ds c fl => ∃ d, ds = [d, .none] ∧ B d c fl) 2) := by
  refine T.d_shows_ring.fnT (N := ["net", "value"]) ⟨rfl, rfl, rfl, by decide +kernel, rfl, by decide +kernel, by decide +kernel⟩ fun f cdv A outer s H1 H0 Q E ds c fl hA S tk hp hl q => ?_
  obtain ⟨d, rfl, hb⟩ := hp
  refine ws_ifr (b := true) (EB.to (eb_is_non (d := .none) (by walk_at "v")) rfl) (fun _ => ?_) fun e => by cases e
  exact ws_ret (Φ := fun _ => False) (ep_isF (ep_raiseT hA tk (g.up (by decide)) (el1 (by walk_at "v")) ⟨d, rfl, hb⟩ fun σ H s r => q.mono s)) fun _ _ _ _ _ f => f.elim
/-- the first of two webs that is none; unlike ones -/
def preW2 (cU : Value) (B : PyData → Value → Option (List (Str × PyData)) → Prop) : PreT := fun ds c fl => ∃ a b, ds = [a, b] ∧ (B a c fl ∨ ∃ h st, a = web h st ∧ WebOk h st ∧ (B b c fl ∨ ∃ h' st', b = web h' st' ∧ WebOk h' st' ∧ h ≠ h' ∧ c = cU ∧ fl = none))
theorem tx_are_multiples {cU : Value} (T : Tx K mg) (U : ExF K mg "Unlike" cU) (g0 : Gchk P w K mg base) (g : Tck P w K mg base 4 "check_web" B) : FnX P w K mg base 5 "are_multiples" ["one", "other"] (spT (preW2 cU B) 2) := by
  refine T.d_are_multiples.fnT (N := ["one", "other"]) ⟨rfl, rfl, rfl, by decide +kernel, rfl, by decide +kernel, by decide +kernel⟩ fun f cdv A outer s H1 H0 Q E ds c fl hA S tk hp hl q => ?_
  obtain ⟨a, b, rfl, hb⟩ := hp
  rcases hb with hb | ⟨h, st, rfl, W, hb⟩
  · exact ws_exprF (ep_raiseT hA tk (g.up (by decide)) (el1 (by walk_at "v")) ⟨a, rfl, hb⟩ fun σ H s r => q.mono s)
  refine ws_expr (ev_call hA (g0.up (by decide)) (el1 (by walk_at "v")) (f_chk_web W)) ?_
  rcases hb with hb | ⟨h', st', rfl, W', ne, rfl, rfl⟩
  · exact ws_exprF (ep_raiseT hA tk (g.up (by decide)) (el1 (by walk_at "v")) ⟨b, rfl, hb⟩ fun σ H s r => q.mono s)
  refine ws_expr (ev_call hA (g0.up (by decide)) (el1 (by walk_at "v")) (f_chk_web W')) ?_
  refine ws_ifr (EB.to (d' := true) (eb_neI (ev_ixT hA (ds := [.int h, .tuple (st.map .int)]) (by walk_at "v") ev_int rfl) (ev_ixT hA (ds := [.int h', .tuple (st'.map .int)]) (by walk_at "v") ev_int rfl)) (by simp [ne])) (fun _ => ?_) fun e => by cases e
  exact ws_raise hA tk U fun σ H s r => q H s
def preN2 (cU : Value) (B : PyData → Value → Option (List (Str × PyData)) → Prop) (a b : PyData) (c : Value) (fl : Option (List (Str × PyData))) : Prop := B a c fl ∨ ∃ n ws, a = netN n ws ∧ NetV n ws ∧ (B b c fl ∨ ∃ n' ws', b = netN n' ws' ∧ NetV n' ws' ∧ n ≠ n' ∧ c = cU ∧ fl = none)
def pre2 (R : PyData → PyData → Value → Option (List (Str × PyData)) → Prop) : PreT := fun ds c fl => ∃ a b, ds = [a, b] ∧ R a b c fl
theorem tx_check_two {cU : Value} (T : Tx K mg) (U : ExF K mg "Unlike" cU) (g0 : Gcn P w K mg base) (g : Tck P w K mg base 5 "check_net" B) : FnX P w K mg base 6 "_check_two" ["one", "other"] (spT (pre2 (preN2 cU B)) 2) := by
  refine T.d_check_two.fnT (N := ["one", "other"]) ⟨rfl, rfl, rfl, by decide +kernel, rfl, by decide +kernel, by decide +kernel⟩ fun f cdv A outer s H1 H0 Q E ds c fl hA S tk hp hl q => ?_
  obtain ⟨a, b, rfl, hb⟩ := hp
  rcases hb with hb | ⟨n, ws, rfl, W, hb⟩
  · exact ws_exprF (ep_raiseT hA tk (g.up (by decide)) (el1 (by walk_at "v")) ⟨a, rfl, hb⟩ fun σ H s r => q.mono s)
  refine ws_expr (ev_callX hA g0 (n, ws) W (el1 (by walk_at "v"))) ?_
  rcases hb with hb | ⟨n', ws', rfl, W', ne, rfl, rfl⟩
  · exact ws_exprF (ep_raiseT hA tk (g.up (by decide)) (el1 (by walk_at "v")) ⟨b, rfl, hb⟩ fun σ H s r => q.mono s)
  refine ws_expr (ev_callX hA g0 (n', ws') W' (el1 (by walk_at "v"))) ?_
  refine ws_ifr (EB.to (d' := true) (eb_neI (ev_ixT hA (ds := [.int (n : Int), .tuple (wyD ws)]) (by walk_at "v") ev_int rfl) (ev_ixT hA (ds := [.int (n' : Int), .tuple (wyD ws')]) (by walk_at "v") ev_int rfl)) (by simp; omega)) (fun _ => ?_) fun e => by cases e
  exact ws_raise hA tk U fun σ H s r => q H s
theorem tx_likeness {R : PyData → PyData → Value → Option (List (Str × PyData)) → Prop} (T : Tx K mg) (g : FnX P w K mg base 6 "_check_two" ["one", "other"] (spT (pre2 R) 2)) : FnX P w K mg base 7 "likeness" ["one", "other"] (spT (pre2 R) 2) := by
  refine T.d_likeness.fnT (N := ["one", "other"]) ⟨rfl, rfl, rfl, by decide +kernel, rfl, by decide +kernel, by decide +kernel⟩ fun f cdv A outer s H1 H0 Q E ds c fl hA S tk hp hl q => ?_
  obtain ⟨a, b, rfl, hb⟩ := hp
  exact ws_exprF (ep_raiseT hA tk (g.up (by decide)) (el2 (by walk_at "v") (by walk_at "v")) ⟨a, b, rfl, hb⟩ fun σ H s r => q.mono s)
theorem tx_are_alike {R : PyData → PyData → Value → Option (List (Str × PyData)) → Prop} (T : Tx K mg) (g : FnX P w K mg base 7 "likeness" ["one", "other"] (spT (pre2 R) 2)) : FnX P w K mg base 8 "are_alike" ["one", "other"] (spT (pre2 R) 2) := by
  refine T.d_are_alike.fnT (N := ["one", "other"]) ⟨rfl, rfl, rfl, by decide +kernel, rfl, by decide +kernel, by decide +kernel⟩ fun f cdv A outer s H1 H0 Q E ds c fl hA S tk hp hl q => ?_
  obtain ⟨a, b, rfl, hb⟩ := hp
  exact ws_ret (Φ := fun _ => False) (ep_isntF (ep_raiseT hA tk (g.up (by decide)) (el2 (by walk_at "v") (by walk_at "v")) ⟨a, b, rfl, hb⟩ fun σ H s r => q.mono s)) fun _ _ _ _ _ f => f.elim
theorem tx_shows_likeness {R : PyData → PyData → Value → Option (List (Str × PyData)) → Prop} (T : Tx K mg) (g : FnX P w K mg base 6 "_check_two" ["one", "other"] (spT (pre2 R) 2)) : FnX P w K mg base 7 "shows_likeness" ["one", "other", "value"] (spT (fun ds c fl => ∃ a b x, ds = [a, b, x] ∧ R a b c fl) 3) := by
  refine T.d_shows_likeness.fnT (N := ["one", "other", "value"]) ⟨rfl, rfl, rfl, by decide +kernel, rfl, by decide +kernel, by decide +kernel⟩ fun f cdv A outer s H1 H0 Q E ds c fl hA S tk hp hl q => ?_
  obtain ⟨a, b, x, rfl, hb⟩ := hp
  exact ws_exprF (ep_raiseT hA tk (g.up (by decide)) (el2 (by walk_at "v") (by walk_at "v")) ⟨a, b, rfl, hb⟩ fun σ H s r => q.mono s)
/-! numbers -/
def NoNum (c0 : Value) : PyData → Value → Option (List (Str × PyData)) → Prop := fun d c fl => isNum d 2 13 = false ∧ c = c0 ∧ fl = none
theorem fstr_ok : (2 : Int).natAbs.log2 < 1920 ∧ (13 : Int).natAbs.log2 < 1920 ∧ (Str.empty ++ Str.ofString "no integer from ").length ≤ 1000 ∧ ((Str.empty ++ Str.ofString "no integer from ") ++ toString (2 : Int)).length ≤ 1000 ∧ (((Str.empty ++ Str.ofString "no integer from ") ++ toString (2 : Int)) ++ Str.ofString " to ").length ≤ 1000 ∧ ((((Str.empty ++ Str.ofString "no integer from ") ++ toString (2 : Int)) ++ Str.ofString " to ") ++ toString (13 : Int)).length ≤ 1000 := by decide +kernel
theorem tx_check_number (T : Tx K mg) {c0 : Value} (F : ExF K mg "BadNumber" c0) (g : Gnum P w K mg base) : FnX P w K mg base 2 "check_number" ["value", "low", "high"] (spT (fun ds c fl => ∃ d, ds = [d, .int 2, .int 13] ∧ NoNum c0 d c fl) 3) := by
  refine T.d_check_number.fnT (N := ["value", "low", "high"]) ⟨rfl, rfl, rfl, by decide +kernel, rfl, by decide +kernel, by decide +kernel⟩ fun f cdv A outer s H1 H0 Q E ds c fl hA S tk hp hl q => ?_
  obtain ⟨d0, rfl, hf, rfl, rfl⟩ := hp
  refine ws_ifr (EB.to (eb_not (eb_val (ev_call hA g (el3 (by walk_at "v") (by walk_at "v") (by walk_at "v")) (by rfl)))) (d' := true) (by rw [hf]; rfl)) (fun _ => ?_) fun e => by cases e
  have sz : ∀ m, m ≤ 1000 → m ≤ sizeLine := fun m h => Nat.le_of_lt (small1000 h)
  obtain ⟨a1, a2, a3, a4, a5, a6⟩ := fstr_ok
  exact ws_raiseE hA tk F (ev_fstr4 (by walk_at "v") (by walk_at "v") a1 a2 (sz _ a3) (sz _ a4) (sz _ a5) (sz _ a6)) fun σ H s r => q H s
theorem tx_factors (T : Tx K mg) {c0 : Value} (g : FnX P w K mg base 2 "check_number" ["value", "low", "high"] (spT (fun ds c fl => ∃ d, ds = [d, .int 2, .int 13] ∧ NoNum c0 d c fl) 3)) : FnX P w K mg base 3 "factors" ["halls"] (spT (pre1 (NoNum c0)) 1) := by
  refine T.d_factors.fnT (N := ["halls"]) ⟨rfl, rfl, rfl, by decide +kernel, rfl, by decide +kernel, by decide +kernel⟩ fun f cdv A outer s H1 H0 Q E ds c fl hA S tk hp hl q => ?_
  obtain ⟨d, rfl, hb⟩ := hp
  obtain ⟨t, hm⟩ := T.c_most
  exact ws_exprF (ep_raiseT hA tk g (el3 (by walk_at "v") ev_int (ev_val (v := .int 13) (fun _ => pe_glob rfl hm ⟨_, rfl⟩) fun H => .int 13)) ⟨d, rfl, hb⟩ fun σ H s r => q.mono s)
/-- no factor of h -/
def NoFac (h : Int) (x : PyData) : Prop := isNum x 1 (h - 1) = false ∨ ∃ f, x = .int f ∧ isNum x 1 (h - 1) = true ∧ ((Nat.gcd f.natAbs h.natAbs : Nat) : Int) ≠ 1
theorem tx_times_no (T : Tx K mg) {c0 : Value} (F : ExF K mg "BadNumber" c0) (g1 : Gchk P w K mg base) (g3 : Gnum P w K mg base) : FnX P w K mg base 5 "times" ["web", "factor"] (spT (fun ds c fl => ∃ h st x, ds = [web h st, x] ∧ WebOk h st ∧ NoFac h x ∧ c = c0 ∧ fl = none) 2) := by
  refine T.d_times.fnT (N := ["web", "factor"]) ⟨rfl, rfl, rfl, by decide +kernel, rfl, by decide +kernel, by decide +kernel⟩ fun f cdv A outer s H1 H0 Q E ds c fl hA S tk hp hl q => ?_
  obtain ⟨hh, ss, x, rfl, W, hn, rfl, rfl⟩ := hp
  refine ws_expr (ev_call hA g1 (el1 (by walk_at "v")) (f_chk_web W)) ?_
  refine ws_ifr (b := true) ?_ (fun _ => ws_raise hA tk F fun σ H s r => q H s) fun e => by cases e
  rcases hn with hn | ⟨fa, rfl, h1, h2⟩
  · exact EB.to (et_w (eb_or (p := true) (q := false) (EB.to (eb_not (eb_val (ev_call hA (g3.up (by decide)) (el3 (by walk_at "v") ev_int (ev_sub (ev_ixT hA (ds := [.int hh, .tuple (ss.map .int)]) (by walk_at "v") ev_int rfl) ev_int)) (by rfl)))) (by rw [hn]; rfl)) fun e => by cases e)) rfl
  · exact EB.to (et_w (eb_or (p := false) (q := true) (EB.to (eb_not (eb_val (ev_call hA (g3.up (by decide)) (el3 (d1 := .int fa) (by walk_at "v") ev_int (ev_sub (ev_ixT hA (ds := [.int hh, .tuple (ss.map .int)]) (by walk_at "v") ev_int rfl) ev_int)) (by rfl)))) (by rw [h1]; rfl)) fun _ => ew_or1 (EB.to (eb_neI (ev_gcd hA T.b_gcd (by walk_at "v") (ev_ixT hA (ds := [.int hh, .tuple (ss.map .int)]) (by walk_at "v") ev_int rfl)) ev_int) (by simp [h2])))) rfl
end
end SK


set_option Elab.async false
set_option linter.all false
set_option maxRecDepth 100000
set_option maxHeartbeats 2000000
/-! Skd2: _law_error: the words of the errors. -/
namespace SK
open PySem SW
open L2 hiding Same
/-- what a head says of the errors: W no web, N no net, B no number, R no prime, U unlike -/
structure ErF (K : PySem.W.Frag) (mg : Str → Option Value) (W N B R U : Addr) (cE : Value) : Prop where
  mgE : mg "WebError" = some cE
  bV : mg "ValueError" = none
  mW : mg "BadWeb" = some (.ref W)
  mN : mg "BadNet" = some (.ref N)
  mB : mg "BadNumber" = some (.ref B)
  mR : mg "NotPrime" = some (.ref R)
  mU : mg "Unlike" = some (.ref U)
  ex : ∀ C ∈ [W, N, B, R, U], PySem.W.exmOne K (.ref C) cE = some true
  cl : ∀ C ∈ [W, N, B, R, U], ExcC K C
  kit : ∀ C ∈ [W, N, B, R, U], ∀ D ∈ [W, N, B, R, U], PySem.W.kitOne K (.ref C) (.ref D) = some (decide (C = D))
  kV : PySem.W.kitOne K (.ref W) (.type "ValueError") = some true
  nd : [W, N, B, R, U].Nodup
section
variable {P : Program} {w : World} {K : PySem.W.Frag} {mg : Str → Option Value} {base : Heap} {W N B R U : Addr} {cE : Value}
abbrev nE : List Str := ["work", "e", "known"]
theorem sc_law_error : FnScope nE ["work"] (defScope s_law_error) := ⟨rfl, rfl, rfl, by decide +kernel, rfl, by decide +kernel, by decide +kernel⟩
theorem wd_web {k : Nat} {w0 : Str} (T : Tx K mg) (F : ErF K mg W N B R U cE) (I : PartE P w K mg base "BadWeb" W) : Words P w K mg base k "_law_error" "work" s_law_error nE (.ref W) (some (partL w0)) (.tuple [.str "web", .str w0]) := fun g cdv A outer s H Q f hA S act fin => by
  refine ws_tryAsG (i := 1) takes0 hA F.mgE S.nd rfl fun WX hW => ?_
  refine ws_exprF (act WX _ _ fun σ' H' s' r' H2 dd fs s2 hd hf => hW (.ref W) (some dd) σ' H2 (F.ex W (by simp)) fun a na => ?_)
  have dx : ∀ d, (some dd) = some d → ∃ fs, H2 d = some (.xd fs) := fun d e => by
    cases e
    exact ⟨fs, hd⟩
  refine WS.run (H0 := H2) (ρ := [some (.raw (.ref f)), some (.raw (.ref a)), none]) ?_ _ H2 (SW.Same.refl H2) ((r'.mono s2).setRaw)
  refine ws_ifr (b := true) (eb_val (ev_isE (hA ()) (F.cl W (by simp)) T.b_isinstance (fun _ => pe_glob (v := .ref W) rfl F.mW rfl) (fun _ e => e) (by rw [F.kit W (by simp) W (by simp), decide_eq_true rfl]) (fun _ => pv 1) rfl dx)) (fun _ => ?_) fun e => by cases e
  refine ws_ret (ep_ifExp (Ψ := fun d => d = PyData.tuple [.str "web", .str w0]) (Φ := fun b => b = true) (eb_val (ev_isE (hA ()) (F.cl W (by simp)) T.b_isinstance (fun _ => pe_bltn (v := .ty "ValueError") rfl F.bV (by decide +kernel) rfl) (fun _ e => e) F.kV (fun _ => pv 1) rfl dx)) (fun _ => ev_tup (el2 ev_str (ev_field (K := K) (hA ()).K I.1.xf I.2 (.inr ⟨1, fun _ => pv 1, rfl⟩) hd hf (List.mem_singleton.mpr rfl)))) fun z => by cases z) fun v H3 d' s3 rv e => ?_
  subst e
  exact fin v H3 (s'.trans (s2.trans s3)) rv
theorem wd_net {k : Nat} {w0 : Str} (T : Tx K mg) (F : ErF K mg W N B R U cE) (I : PartE P w K mg base "BadNet" N) : Words P w K mg base k "_law_error" "work" s_law_error nE (.ref N) (some (partL w0)) (.tuple [.str "net", .str w0]) := fun g cdv A outer s H Q f hA S act fin => by
  refine ws_tryAsG (i := 1) takes0 hA F.mgE S.nd rfl fun WX hW => ?_
  refine ws_exprF (act WX _ _ fun σ' H' s' r' H2 dd fs s2 hd hf => hW (.ref N) (some dd) σ' H2 (F.ex N (by simp)) fun a na => ?_)
  have dx : ∀ d, (some dd) = some d → ∃ fs, H2 d = some (.xd fs) := fun d e => by
    cases e
    exact ⟨fs, hd⟩
  have ne : N ≠ W := fun e => by
    have := F.nd
    simp [e] at this
  refine WS.run (H0 := H2) (ρ := [some (.raw (.ref f)), some (.raw (.ref a)), none]) ?_ _ H2 (SW.Same.refl H2) ((r'.mono s2).setRaw)
  refine ws_no (eb_val (ev_isE (hA ()) (F.cl N (by simp)) T.b_isinstance (fun _ => pe_glob (v := .ref W) rfl F.mW rfl) (fun _ e => e) (by rw [F.kit N (by simp) W (by simp), decide_eq_false ne]) (fun _ => pv 1) rfl dx)) ?_
  refine ws_ifr (b := true) (eb_val (ev_isE (hA ()) (F.cl N (by simp)) T.b_isinstance (fun _ => pe_glob (v := .ref N) rfl F.mN rfl) (fun _ e => e) (by rw [F.kit N (by simp) N (by simp), decide_eq_true rfl]) (fun _ => pv 1) rfl dx)) (fun _ => ?_) fun e => by cases e
  refine ws_ret (ev_tup (ds := [.str "net", .str w0]) (el2 ev_str (ev_field (K := K) (hA ()).K I.1.xf I.2 (.inr ⟨1, fun _ => pv 1, rfl⟩) hd hf (List.mem_singleton.mpr rfl)))) fun v H3 d' s3 rv e => ?_
  subst e
  exact fin v H3 (s'.trans (s2.trans s3)) rv
theorem wd_num {k : Nat} {C : Addr} {b1 b2 b3 : Bool} {j : Nat} {word : Str} (T : Tx K mg) (F : ErF K mg W N B R U cE) (hC : C ∈ [W, N, B, R, U]) (nW : C ≠ W) (nN : C ≠ N) (e1 : decide (C = B) = b1) (e2 : decide (C = R) = b2) (e3 : decide (C = U) = b3)
    (hc : ([PyData.bool b1, .bool b2, .bool b3].countP fun z => PyData.eqv z (.bool true)) = 1) (hj : ([PyData.bool b1, .bool b2, .bool b3] : List PyData)[j]? = some (.bool true)) (hn : ∀ (m : Nat) (z' : PyData), m < j → ([PyData.bool b1, .bool b2, .bool b3] : List PyData)[m]? = some z' → PyData.eqv z' (.bool true) = false)
    (hs : Shp (.list [PyData.bool b1, .bool b2, .bool b3])) (hw : atI [PyData.str "number", .str "prime", .str "unlike"] (j : Int) = some (.str word)) : Words P w K mg base (k + 1) "_law_error" "work" s_law_error nE (.ref C) none (.str word) := fun g cdv A outer s H Q f hA S act fin => by
  refine ws_tryAsG (i := 1) takes0 hA F.mgE S.nd rfl fun WX hW => ?_
  refine ws_exprF (act WX _ _ fun σ' H' s' r' H2 s2 => hW (.ref C) none σ' H2 (F.ex C hC) fun a na => ?_)
  have dx : ∀ d, (none : Option Addr) = some d → ∃ fs, H2 d = some (.xd fs) := fun d e => by cases e
  refine WS.run (H0 := H2) (ρ := [some (.raw (.ref f)), some (.raw (.ref a)), none]) ?_ _ H2 (SW.Same.refl H2) ((r'.mono s2).setRaw)
  refine ws_no (eb_val (ev_isE (hA ()) (F.cl C hC) T.b_isinstance (fun _ => pe_glob (v := .ref W) rfl F.mW rfl) (fun _ e => e) (by rw [F.kit C hC W (by simp), decide_eq_false nW]) (fun _ => pv 1) rfl dx)) ?_
  refine ws_no (eb_val (ev_isE (hA ()) (F.cl C hC) T.b_isinstance (fun _ => pe_glob (v := .ref N) rfl F.mN rfl) (fun _ e => e) (by rw [F.kit C hC N (by simp), decide_eq_false nN]) (fun _ => pv 1) rfl dx)) ?_
  have Ss : Sc (suF (bdF P w K mg base nE "_law_error" (defScope s_law_error) g cdv A outer s H ()) a (.ref C) none) nE (defScope s_law_error) := ⟨S.nd, fun _ => rfl, fun _ => rfl⟩
  have hu : ∀ i, (suF (bdF P w K mg base nE "_law_error" (defScope s_law_error) g cdv A outer s H ()) a (.ref C) none i).K = K ∧ (suF (bdF P w K mg base nE "_law_error" (defScope s_law_error) g cdv A outer s H ()) a (.ref C) none i).A.units + 65 < cLine := fun _ => ⟨rfl, (hA ()).hu5⟩
  refine ws_set (i := 2) (ev_lst (ds := [PyData.bool b1, .bool b2, .bool b3]) (el3 (ev_isE (hA ()) (F.cl C hC) T.b_isinstance (fun _ => pe_glob (v := .ref B) rfl F.mB rfl) (fun _ e => e) (by rw [F.kit C hC B (by simp), e1]) (fun _ => pv 1) rfl dx) (ev_isE (hA ()) (F.cl C hC) T.b_isinstance (fun _ => pe_glob (v := .ref R) rfl F.mR rfl) (fun _ e => e) (by rw [F.kit C hC R (by simp), e2]) (fun _ => pv 1) rfl dx) (ev_isE (hA ()) (F.cl C hC) T.b_isinstance (fun _ => pe_glob (v := .ref U) rfl F.mU rfl) (fun _ e => e) (by rw [F.kit C hC U (by simp), e3]) (fun _ => pv 1) rfl dx))) Ss fun d e => ?_
  subst e
  refine ws_ret (ep_ifExp (Ψ := fun d => d = PyData.str word) (Φ := fun b => b = true) (EB.to (eb_eqI (ev_countLK (d := .bool true) hu (ev_var (fun _ => pv 2) rfl) ev_bl hs rfl) ev_int) (by rw [hc] <;> rfl)) (fun _ => ev_ixLK (K := K) (fun i => (hu i).1) (ev_lst (ds := [PyData.str "number", .str "prime", .str "unlike"]) (el3 ev_str ev_str ev_str)) (ev_indexL (d := .bool true) (j := j) hu (ev_var (fun _ => pv 2) rfl) ev_bl hs rfl hj rfl hn) hw) fun z => by cases z) fun v H3 d' s3 rv e => ?_
  subst e
  exact fin v H3 (s'.trans (s2.trans s3)) rv
theorem wd_number {k : Nat} (T : Tx K mg) (F : ErF K mg W N B R U cE) : Words P w K mg base (k + 1) "_law_error" "work" s_law_error nE (.ref B) none (.str "number") := by
  have nd := F.nd
  simp at nd
  exact wd_num (b1 := true) (b2 := false) (b3 := false) (j := 0) T F (by simp) (Ne.symm nd.1.2.1) (Ne.symm nd.2.1.1) (by simp) (by simp; exact nd.2.2.1.1) (by simp; exact nd.2.2.1.2) (by decide +kernel) rfl (fun m z h => by omega) (by decide +kernel) rfl
theorem wd_prime {k : Nat} (T : Tx K mg) (F : ErF K mg W N B R U cE) : Words P w K mg base (k + 1) "_law_error" "work" s_law_error nE (.ref R) none (.str "prime") := by
  have nd := F.nd
  simp at nd
  exact wd_num (b1 := false) (b2 := true) (b3 := false) (j := 1) T F (by simp) (Ne.symm nd.1.2.2.1) (Ne.symm nd.2.1.2.1) (by simp; exact Ne.symm nd.2.2.1.1) (by simp) (by simp; exact nd.2.2.2) (by decide +kernel) rfl (fun m z h e => by
    obtain rfl : m = 0 := by omega
    cases e
    rfl) (by decide +kernel) rfl
theorem wd_unlike {k : Nat} (T : Tx K mg) (F : ErF K mg W N B R U cE) : Words P w K mg base (k + 1) "_law_error" "work" s_law_error nE (.ref U) none (.str "unlike") := by
  have nd := F.nd
  simp at nd
  exact wd_num (b1 := false) (b2 := false) (b3 := true) (j := 2) T F (by simp) (Ne.symm nd.1.2.2.2) (Ne.symm nd.2.1.2.2) (by simp; exact Ne.symm nd.2.2.1.2) (by simp; exact Ne.symm nd.2.2.2) (by simp) (by decide +kernel) rfl (fun m z h e => by
    obtain rfl | rfl : m = 0 ∨ m = 1 := by omega
    · cases e
      rfl
    · cases e
      rfl) (by decide +kernel) rfl
end
end SK


set_option Elab.async false
set_option linter.all false
set_option maxRecDepth 100000
set_option maxHeartbeats 2000000
/-! SwLcP: comprehensions whose block is told something of the state in which it begins. -/
namespace SW
open PySem PySem.Spec PyProof.Rows
open L2 hiding Same
variable [Nm]
/-- the blocks that begin in a state of which Pr is true -/
abbrev BIx (Pr : Shared → Hp → List Addr → Prop) : Type := {t : Shared × Hp × Addr × List (Str × Addr) × List Addr // Pr t.1 t.2.1 t.2.2.2.2}
abbrev blkP (X : Cx) (scope : Scope) (Pr : Shared → Hp → List Addr → Prop) : BIx Pr → Cx := fun t => X.blk t.1.1 t.1.2.1 scope (compEnvC scope t.1.2.2.2.1 t.1.2.2.1 X.env) t.1.2.2.2.2
section
variable {X : Cx} {elt tg iter : Expr} {ifs : List Expr} {scope : Scope} {own : List (Str × Nat)} {wi : TI} {g : TG} {tt : TT} {te : TE} {Pr : Shared → Hp → List Addr → Prop} {σ : L2.St} {pos : Pos}
/-- the loop of such a block, from its first turn on -/
theorem loopP {t0 : BIx Pr} {it D : Addr} {tn : Nat → Heap → Prop} {J : It} {R : Result → Shared → Prop} {Qd : Hp → Prop} {W : Nat → Nat → Hp → Prop} (hc : X.calm = true) (T : Turn X.prog X.w X.K tg J t0.1.2.2.2.2 it tn)
    (pg : PG (blkP X scope Pr t0) tg g) (pt : PTs (blkP X scope Pr t0) ifs tt) (pe : PE (blkP X scope Pr t0) elt te)
    (turn : ∀ i m H, W i m H → (J.stop i H ∧ Qd H) ∨ (J.go i H ∧ ∃ Nx : Hp → Prop, (∀ H', Nx H' → ∃ m', m' < m ∧ W (i + 1) m' H') ∧ ∀ x H', J.yld i H x H' → g x (wipe σ (own.map (·.2))) H' fun σ2 H2 => wipe σ2 (own.map (·.2)) = wipe σ (own.map (·.2)) ∧ tt σ2 H2 fun b H3 =>
      if b = true then te σ2 H3 fun y H4 => ∃ acc, H4 D = some (.lst acc) ∧ acc.length < sizeLine ∧ Nx (upd H4 D (.lst (acc ++ [y]))) else Nx H3))
    (fin : ∀ H' s', Inv (blkP X scope Pr t0) [] (wipe σ (own.map (·.2))) H' s' → Qd H' → R (.ok .next) s') {s : Shared} {H : Hp} {m : Nat} (I0 : Inv (blkP X scope Pr t0) [] (wipe σ (own.map (·.2))) H s) (h0 : tn 0 s.heap) (n0 : ∀ b ∈ t0.1.2.2.2.2, H b = none) (w0 : W 0 m H) :
    codeAny (model X.prog X.w) X.A (.compLoop (.ListComp elt [⟨tg, iter, ifs, 0⟩] scope pos) 0 (.ref it) (.ref D) (blkP X scope Pr t0).env) R s := by
  have frame : ∀ {σ' : L2.St} {H' : Hp} {s' : Shared}, Inv (blkP X scope Pr t0) [] σ' H' s' → (∀ b ∈ t0.1.2.2.2.2, H' b = none) → ∀ b ∈ t0.1.2.2.2.2, FpOk (blkP X scope Pr t0) [] H' b := fun I' hn b hb =>
    ⟨hn b hb, (I'.ok.exf b hb).1, I'.ok.exfs b hb, .inl hb, (fun y c e => (I'.ok.exf b hb).2 y c e), fun p hp => by cases hp⟩
  refine compLoop_any (fun n s' => ∃ i H', Inv (blkP X scope Pr t0) [] (wipe σ (own.map (·.2))) H' s' ∧ tn i s'.heap ∧ (∀ b ∈ t0.1.2.2.2.2, H' b = none) ∧ W i n H') (fun n s1 ⟨i, H1, I1, e1, f1, w1⟩ => ?_) m ⟨0, H, I0, h0, n0, w0⟩
  rcases turn i n H1 w1 with ⟨st, q⟩ | ⟨go, Nx, less, rest⟩
  · exact thnF (T.done (blkP X scope Pr t0) rfl rfl rfl hc i [] s1 _ H1 (fun _ _ => False) I1 (frame I1 f1) e1 st) fun r s2 ⟨z, I2⟩ => by
      subst z
      exact fin H1 s2 I2 q
  · refine thnF (T.item (blkP X scope Pr t0) rfl rfl rfl hc i [] s1 _ H1 (fun _ _ => False) I1 (frame I1 f1) e1 go) fun r s2 ⟨u, z, more⟩ => ?_
    subst z
    refine thnF more fun _ s3 ⟨x, H3, I3, r3, y3, e3, f3⟩ => ?_
    refine thnF (pg.run _ s3 _ H3 x u _ (I3.pinned (frame I3 f3) (T.obj _ _ e3)) r3 (rest x H3 y3)) fun _ s4 ⟨σ4, H4, I4, w4, q4⟩ => thnF (pt.run _ s4 σ4 H4 _ I4 q4) fun b s5 ⟨H5, I5, q5⟩ => ?_
    have back : ∀ s' H', Inv (blkP X scope Pr t0) ([] ++ pinsAt t0.1.2.2.2.2 s3.heap) σ4 H' s' → Nx H' → ∃ m', m' < n ∧ ∃ i H', Inv (blkP X scope Pr t0) [] (wipe σ (own.map (·.2))) H' s' ∧ tn i s'.heap ∧ (∀ b ∈ t0.1.2.2.2.2, H' b = none) ∧ W i m' H' := fun s' H' I' nx => by
      obtain ⟨m', lt, w'⟩ := less H' nx
      have held : ∀ b ∈ t0.1.2.2.2.2, ∀ o, s3.heap.get? b = some o → s'.heap.get? b = some o ∧ H' b = none := fun b hb o e => by
        have z := I'.pin (b, o) (List.mem_append_right _ (List.mem_append_right _ (mem_pinsAt hb e)))
        exact ⟨z.1, z.2.1⟩
      refine ⟨m', lt, i + 1, H', (I'.unpinned (pins := [])).weak (by rw [← w4, wipe_length]) (fun j v e => (wipe_some (by rw [w4]; exact e)).1), T.keep _ _ _ e3 (fun b hb o e => (held b hb o e).1), (fun b hb => ?_), w'⟩
      obtain ⟨o, e, _⟩ := T.obj _ _ e3 b hb
      exact (held b hb o e).2
    cases b with
    | false => exact back s5 H5 I5 (by simpa using q5)
    | true =>
      rw [if_pos rfl] at q5
      refine thnF (pe.run _ s5 σ4 H5 _ I5 q5) fun z s6 hz => ?_
      obtain ⟨yv, H6, I6, r6, acc, d6, z6, nx⟩ := hz
      exact app_ok (X := blkP X scope Pr t0) I6 d6 z6 r6 fun s7 I7 => back s7 _ I7 nx
/-- [elt for tg in iter if ..] whose block is told Pr of its beginning -/
theorem pe_lcP {Good : L2.St → Prop} (hc : X.calm = true) (hN : X.N.Nodup) (hi : PI X tg iter wi) (ok : BlkOk X.N X.env.scope scope own)
    (hPr : ∀ (pins : List (Addr × Obj)) (σ : L2.St) (H : Hp) (s : Shared) (fp : List Addr), Good σ → Inv X pins σ H s → (∀ b ∈ fp, FpOk X pins H b) → Pr s H fp)
    (hg : ∀ i, PG (blkP X scope Pr i) tg g) (ht : ∀ i, PTs (blkP X scope Pr i) ifs tt) (he : ∀ i, PE (blkP X scope Pr i) elt te) (hs : ∀ x, foldedSetIterable iter X.env x = pure x := by intro _; rfl) :
    PE X (.ListComp elt [⟨tg, iter, ifs, 0⟩] scope pos) (fun σ H Q => Good σ ∧ tLc wi g tt te (own.map (·.2)) σ H Q) := by
  refine ⟨fun pins s σ H Q I hgt => ?_⟩
  obtain ⟨gd, h⟩ := hgt
  rw [eval_ListComp]
  have clos : closureFor scope X.env = pure (cloFrom X.env.cells scope.names []) := closure_ok fun y hy e => (ok.free y hy e).elim (fun k => I.ok.has _ (.inl k)) fun k => I.ok.has _ (.inr k)
  refine wpAny_comprehension_free (use := none) rfl hs clos ok.kind (fun y hy e => by rw [ok.uniq y hy, e]) (thn (hi.run pins s σ H _ I h) fun _ s1 hx => thn hx fun _ s2 hy => ?_)
  obtain ⟨it, fp, tn, J, H2, rfl, I2, T, e2, f2, q⟩ := hy
  refine wpAny_newObj_type (newEnv_comp ?_) (by show 0 ≤ sizeLine; decide)
  have freeD : H2 s2.heap.objs.size = none := I2.hok.fresh (Nat.le_refl _)
  obtain ⟨W, ⟨m0, w0⟩, turn⟩ := q s2.heap.objs.size freeD
  have lt : ∀ b ∈ fp, b < s2.heap.objs.size := fun b hb => by
    obtain ⟨o, e, _⟩ := T.obj _ _ e2 b hb
    exact Heap.lt_size e
  have I3 : Inv X pins σ (upd H2 s2.heap.objs.size (.lst [])) { s2 with heap := s2.heap.push { cls := .type "list", data := .seq ([] : List Value).toArray } } :=
    I2.laid (t' := s2.toks) (fun b o e => Heap.get?_push_of_some _ e) (Nat.le_refl _) ⟨Nat.zero_le _, [], 0, .nil, Heap.get?_push_size _ rfl⟩
  generalize hD : s2.heap.objs.size = D at freeD w0 turn lt I3 ⊢
  generalize hs3 : ({ s2 with heap := s2.heap.push { cls := .type "list", data := .seq ([] : List Value).toArray } } : Shared) = s3 at I3 ⊢
  have hh3 : s3.heap = s2.heap.push { cls := .type "list", data := .seq ([] : List Value).toArray } := by rw [← hs3]
  have f3 : ∀ b ∈ fp, FpOk X pins (upd H2 D (.lst [])) b ∧ b < s3.heap.objs.size := fun b hb =>
    ⟨⟨by rw [upd_ne (Nat.ne_of_lt (lt b hb))]; exact (f2 b hb).1, (f2 b hb).2⟩, by rw [hh3, Heap.size_push, hD]; exact Nat.lt_succ_of_lt (lt b hb)⟩
  have e3 : tn 0 s3.heap := T.keep _ _ _ e2 fun b _ o e => by rw [hh3]; exact Heap.get?_push_of_some _ e
  generalize upd H2 D (.lst []) = H3 at I3 w0 f3
  have I4 := block_start I3 ok hN f3
  have pr : Pr s3 H3 fp := hPr pins σ H3 s3 fp gd I3 fun b hb => (f3 b hb).1
  let t0 : BIx Pr := ⟨(s3, H3, s3.heap.objs.size, cellsFrom (s3.heap.objs.size + 1) scope.names (cloFrom X.env.cells scope.names []), fp), pr⟩
  have I5 : Inv (blkP X scope Pr t0) [] (wipe σ (own.map (·.2))) H3 { s3 with heap := pushCells (s3.heap.push { cls := .type "dict", data := .dict #[] }) scope.names } := I4
  have e5 : tn 0 (pushCells (s3.heap.push { cls := .type "dict", data := .dict #[] }) scope.names) := T.keep _ _ _ e3 fun b _ o e => pushCells_keeps _ _ _ _ (Heap.get?_push_of_some _ e)
  have loop := loopP (R := compPost (model X.prog X.w) X.A X.xe none (L2.EP X pins σ Q) (.ref D) s3.heap.objs.size) (pos := pos) (elt := elt) (iter := iter) (ifs := ifs) (own := own) (σ := σ) (Qd := fun H' => Q (.ref D) H') (D := D) hc T (hg t0) (ht t0) (he t0) turn (fun H' s' I' q' => ?_) I5 e5 (fun b hb => (f3 b hb).1.1) w0
  · exact codeAny_compStart_list loop (T.self X.A 0 _ _ _ e5 loop)
  · have back : Inv X pins σ H' s' := I3.call' (ch := fp) I'.os I'.base I'.hok I'.bare fun b hb => let z := (f3 b hb).1.2; ⟨z.2.2.1, z.1, z.2.2.2.1, z.2.2.2.2⟩
    have noC : H' s3.heap.objs.size = none := I'.free
    obtain ⟨m, hn, _⟩ := I'.loc
    obtain ⟨g0, g1, g2, g3, g4, g5⟩ := I3.fpOk (Nat.le_refl _) noC
    exact ⟨m, hn, fun h2 sb => ⟨.ref D, H', back.turned (t' := s'.toks) (fun b o hb e => (sb.2 b hb).trans e) g0 g1 g3 g4 g5, rfl, q'⟩⟩
end
end SW

set_option Elab.async false
set_option linter.all false
set_option maxRecDepth 100000
set_option maxHeartbeats 2000000
/-! SwLcR: [elt for y in e if ..], e a list of values that are no data (lambdas). -/
namespace SW
open PySem PySem.Spec PyProof.Rows
open L2 hiding Same
variable [Nm]
/-- an iterator that yields just these values -/
def YldR (J : It) (H : Hp) (xs : List V) : Prop := ∀ H', SameE H H' → ∀ i, (i < xs.length → J.go i H' ∧ ∀ x H'', J.yld i H' x H'' → Same H' H'' ∧ xs[i]? = some x) ∧ (i = xs.length → J.stop i H')
theorem yldR_list {K : PySem.W.Frag} {H : Hp} {a : Addr} {xs : List V} (h : H a = some (.lst xs)) : YldR (Itl K a) H xs := fun H' s i => by
  have q : SqL K H' a xs := SqL.of (s _ _ h rfl)
  refine ⟨fun hi => ?_, fun hi => ⟨xs, q, by omega⟩⟩
  have e1 : xs[i]? = some xs[i] := List.getElem?_eq_getElem hi
  refine ⟨⟨xs, _, q, e1⟩, fun x H'' y => ?_⟩
  obtain ⟨e, y⟩ := y
  subst e
  exact ⟨Same.refl _, y xs q⟩
/-- what is walked: xs -/
def DIr {I : Type} (X : I → Cx) (σ : L2.St) (H : Hp) (tg e : Expr) (Kn : List V → Hp → Prop) : Prop := ∀ H1 (R : It → Hp → Prop), Same H H1 → (∀ J xs H2, Same H1 H2 → YldR J H2 xs → Kn xs H2 → xs.length ≤ sizeLine → R J H2) → uI X tg e σ H1 R
section
variable {X : Unit → Cx} {I : Type} {Y : I → Cx} {σ : L2.St} {H : Hp} {tg e elt : Expr} {ifs : List Expr} {i0 : Nat}
theorem lc_semR {Kn : List V → Hp → Prop} (src : DIr X σ H tg e Kn) (Pv : List V → Nat → List PyData → Prop) (h0 : ∀ xs, Pv xs 0 [])
    (step : ∀ xs H2 i v acc, Same H H2 → Kn xs H2 → xs[i]? = some v → Pv xs i acc → ∀ H', Same H2 H' → ∃ Φ : Bool → Prop, DTs Y ((wipe σ [i0]).set i0 (some v)) H' ifs Φ ∧
      (Φ false → Pv xs (i + 1) acc) ∧ (Φ true → ∃ Ψ, DP Y ((wipe σ [i0]).set i0 (some v)) H' elt Ψ ∧ ∀ y, Ψ y → Pv xs (i + 1) (acc ++ [y]))) :
    ∀ (H1 : Hp) (Q : VK), Same H H1 → (∀ v H2 d, Same H1 H2 → Rp H2 v d → (∃ xs H3 acc, Same H H3 ∧ Kn xs H3 ∧ d = .list acc ∧ Pv xs xs.length acc) → Q v H2) → tLc (uI X tg e) (gName i0) (uTs Y ifs) (uE Y elt) [i0] σ H1 Q := fun H1 Q s q => by
  refine src H1 _ s fun J xs H2 s2 y kn hlen D hD => ?_
  refine ⟨fun i m H' => m = xs.length - i ∧ i ≤ xs.length ∧ ∃ vs acc, H' D = some (.lst vs) ∧ RpA (upd H' D (.ext (Lph D vs))) vs acc ∧ acc.length ≤ i ∧ Pv xs i acc ∧ Same H2 H', ⟨xs.length, by simp, Nat.zero_le _, [], [], upd_same, .nil, Nat.le_refl _, h0 xs, same_upd hD⟩, ?_⟩
  rintro i m H3 ⟨rfl, hi, vs, acc, hD3, ra, hl, pv, s3⟩
  obtain ⟨y1, y2⟩ := y H3 (same_e s3) i
  rcases Nat.lt_or_ge i xs.length with hlt | hge
  · refine .inr ⟨(y1 hlt).1, fun H' => i + 1 ≤ xs.length ∧ ∃ vs acc, H' D = some (.lst vs) ∧ RpA (upd H' D (.ext (Lph D vs))) vs acc ∧ acc.length ≤ i + 1 ∧ Pv xs (i + 1) acc ∧ Same H2 H', fun H' n => ⟨xs.length - (i + 1), by omega, rfl, n⟩, fun x H4 yx => ?_⟩
    obtain ⟨s4, hx⟩ := (y1 hlt).2 x H4 yx
    have hD4 : H4 D = some (.lst vs) := s4 _ _ hD3
    have s24 := same_hide (u := .ext (Lph D vs)) (s3.trans s4) hD hD4
    obtain ⟨Φ, ht, h1, h2⟩ := step xs H2 i x acc (s.trans s2) kn hx pv _ s24
    refine ⟨by show ((σ.set i0 none).set i0 (some x)).set i0 none = σ.set i0 none; rw [List.set_set, List.set_set], uts_hide hD4 (ht _ _ (Same.refl _) fun c H5 s5 hc => ⟨s5 _ _ upd_same, ?_⟩)⟩
    have hD5 : H5 D = some (.ext (Lph D vs)) := s5 _ _ upd_same
    have s25 : Same H2 H5 := s24.trans s5
    have ra5 : RpA H5 vs acc := ra.monoX upd_same fun b o hb q n => s5.at_ _ _ (by rw [upd_ne hb] at q ⊢; exact s4.at_ _ _ q n) n
    cases c with
    | false => exact iteF ⟨hlt, vs, acc, upd_same, ra5.monoX hD5 (fun b o hb q n => by rw [upd_ne hb, upd_ne hb]; exact q), by omega, h1 hc, same_hide s25 hD hD5⟩
    | true =>
      obtain ⟨Ψ, he, h3⟩ := h2 hc
      refine iteT (ue_hide upd_same ?_)
      have s5' : Same H5 (upd (upd H5 D (.lst vs)) D (.ext (Lph D vs))) := Same.of fun b o q => by
        rw [upd_upd]
        by_cases hb : b = D
        · subst hb; rw [hD5] at q; rw [upd_same]; exact q
        · rw [upd_ne hb]; exact q
      refine he _ _ (s5.trans s5') fun yv H6 yd s6 ry fy => ?_
      have hD6 : H6 D = some (.ext (Lph D vs)) := s6 _ _ upd_same
      refine ⟨hD6, vs, upd_same, by rw [ra.length]; omega, hlt, vs ++ [yv], acc ++ [yd], upd_same, ?_, by rw [List.length_append, List.length_singleton]; omega, h3 yd fy, same_hide (same_hide (s25.trans (s5'.trans s6)) hD hD6) hD upd_same⟩
      have mv : SameX D H6 (upd (upd (upd H6 D (.lst vs)) D (.lst (vs ++ [yv]))) D (.ext (Lph D (vs ++ [yv])))) := fun b o hb q n => by rw [upd_ne hb, upd_ne hb, upd_ne hb]; exact q
      exact ((ra5.mono (s5'.trans s6)).monoX hD6 mv).append (.cons (ry.monoX hD6 mv) .nil)
  · have e1 : i = xs.length := by omega
    subst e1
    exact .inl ⟨y2 rfl, q (.ref D) H3 _ (s2.trans s3) (.lst hD3 (ra.monoX upd_same fun b o hb q n => by rw [upd_ne hb] at q; exact q)) ⟨xs, H2, acc, s.trans s2, kn, rfl, pv⟩⟩
end
end SW

set_option Elab.async false
set_option linter.all false
set_option maxRecDepth 100000
set_option maxHeartbeats 2000000
/-! SwTh4: lists of lambdas; [d(work) for work in e]. -/
namespace SW
open PySem PySem.Spec PyProof.Rows
open L2 hiding Same
open LamX (TabB)
open NdefX (NF NScope CellsAt startF envF ncx inv_startN Caps cells_of slotAt)
variable [Nm]
theorem LamL.mono {H H' : Hp} {f : Addr} {L : LW} {q : Str} {cl : List (Str × Addr)} (h : LamL H f L q cl) (s : Same H H') : LamL H' f L q cl := h.elim fun c h => ⟨c, h.mono s⟩
/-- the values xs are the lambdas Ls, made in a frame of these cells -/
def KnL (q : Str) (cells : List (Str × Addr)) (Ls : List LW) (xs : List V) (H : Hp) : Prop := xs.length = Ls.length ∧ ∀ (i : Nat) (v : V) (L : LW), xs[i]? = some v → Ls[i]? = some L → ∃ f, v = .ref f ∧ LamL H f L q (cloFrom cells L.scope.names [])
theorem KnL.mono {q : Str} {cells : List (Str × Addr)} {Ls : List LW} {xs : List V} {H H' : Hp} (h : KnL q cells Ls xs H) (s : Same H H') : KnL q cells Ls xs H' := ⟨h.1, fun i v L e1 e2 => let ⟨f, e, l⟩ := h.2 i v L e1 e2; ⟨f, e, l.mono s⟩⟩
theorem KnL.append {q : Str} {cells : List (Str × Addr)} {Ls Ms : List LW} {xs ys : List V} {H : Hp} (h : KnL q cells Ls xs H) (h' : KnL q cells Ms ys H) : KnL q cells (Ls ++ Ms) (xs ++ ys) H := by
  refine ⟨by rw [List.length_append, List.length_append, h.1, h'.1], fun i v L e1 e2 => ?_⟩
  by_cases hi : i < xs.length
  · rw [List.getElem?_append_left hi] at e1
    rw [List.getElem?_append_left (by rw [← h.1]; exact hi)] at e2
    exact h.2 i v L e1 e2
  · rw [List.getElem?_append_right (by omega)] at e1
    rw [List.getElem?_append_right (by rw [← h.1]; omega), ← h.1] at e2
    exact h'.2 _ v L e1 e2
/-- a lambda that is just written -/
def EMo (X : Unit → Cx) (H0 : Hp) (ρ : Env1) (e : Expr) (L : LW) : Prop := ∀ σ H, Same H0 H → RpS H σ ρ → ∀ (H1 : Hp) (Q : VK), Same H H1 → (∀ f H2, Same H1 H2 → LamL H2 f L ((X ()).env.qual ++ "<lambda>") (cloFrom (X ()).env.cells L.scope.names []) → Q (.ref f) H2) → uE X e σ H1 Q
/-- arguments / a list of lambdas -/
def EMa (X : Unit → Cx) (H0 : Hp) (ρ : Env1) (es : List Expr) (Ls : List LW) : Prop := ∀ σ H, Same H0 H → RpS H σ ρ → ∀ (H1 : Hp) (Q : List V → Hp → Prop), Same H H1 → (∀ xs H2, Same H1 H2 → KnL ((X ()).env.qual ++ "<lambda>") (X ()).env.cells Ls xs H2 → Q xs H2) → uA X es σ H1 Q
def EM (X : Unit → Cx) (H0 : Hp) (ρ : Env1) (e : Expr) (Ls : List LW) : Prop := ∀ σ H, Same H0 H → RpS H σ ρ → ∀ (H1 : Hp) (Q : VK), Same H H1 → (∀ p xs H2, Same H1 H2 → H2 p = some (.lst xs) → KnL ((X ()).env.qual ++ "<lambda>") (X ()).env.cells Ls xs H2 → Q (.ref p) H2) → uE X e σ H1 Q
section
variable {P : Program} {w : World} {K : PySem.W.Frag} {mg : Str → Option Value} {base : Heap} {k : Nat}
/-- a lambda's making, in any family of contexts -/
theorem al_lam {I : Type} {X : I → Cx} {H0 : Hp} {ρ : Env1} {c Pt : Addr} {L : LW} {pos : Pos} (hA : ∀ i, At (X i) P w K mg base k) (TB : TabB base mg c Pt) (hcode : ∀ i, (X i).env.code = .ref c) (hq : ∀ i, Nm.nm pos.line pos.col = (X i).env.qual ++ "<lambda>")
    (hd : (L.dn = [] ∧ ∀ i, defaultsOf L.params (X i).env = ([], [])) ∨ ∃ d j p, L.dn = [d] ∧ L.params.defaults = [.Constant (.int d) j p] ∧ L.params.kw_defaults = [])
    (hfree : ∀ i, ∀ z ∈ L.scope.names, z.2 = .free → (X i).env.scope.names.lookup z.1 = some .cell ∨ (X i).env.scope.names.lookup z.1 = some .free) (tab : TabF H0 Pt) :
    ∀ i σ H, Same H0 H → RpS H σ ρ → ∀ (H1 : Hp) (Q : VK), Same H H1 → (∀ f H2, Same H1 H2 → LamL H2 f L ((X i).env.qual ++ "<lambda>") (cloFrom (X i).env.cells L.scope.names []) → Q (.ref f) H2) → uE (fun _ : Unit => X i) (.Lambda L.params L.body L.scope pos) σ H1 Q := fun i σ H s r H1 Q s1 q => by
  have fr : (X i).Ok → ∀ y ∈ L.scope.names, y.2 = .free → ∃ c, (X i).env.cells.lookup y.1 = some c := fun ok y hy e => (hfree i y hy e).elim (fun z => ok.has _ (.inl z)) fun z => ok.has _ (.inr z)
  have tb : TabB (X i).base (X i).mg c Pt := by rw [(hA i).base, (hA i).mg]; exact TB
  rcases hd with ⟨e, hd⟩ | ⟨d, j, p, e, h1, h2⟩
  · exact ⟨_, fun _ => pe_lam0 tb (hcode i) (hq i) (hd i) fr, s1.tab _ (s.tab _ tab), fun f c' H2 s2 l => q f H2 s2 ⟨c', by rw [e]; exact l⟩⟩
  · exact ⟨_, fun _ => pe_lam1 tb (hcode i) (hq i) h1 h2 fr, s1.tab _ (s.tab _ tab), fun f c' H2 s2 l => q f H2 s2 ⟨c', by rw [e]; exact l⟩⟩
/-- a name that holds a lambda -/
theorem al_name {I : Type} {X : I → Cx} {H0 : Hp} {ρ : Env1} {L : LW} {q : Str} {cl : List (Str × Addr)} {y : Str} {p : Pos} {j : Nat} {f : Addr} (pv : ∀ i, PE (X i) (.Name y p) (tVar j)) (hj : ρ[j]? = some (some (.raw (.ref f)))) (lam : LamL H0 f L q cl) :
    ∀ i σ H, Same H0 H → RpS H σ ρ → ∀ (H1 : Hp) (Q : VK), Same H H1 → (∀ f H2, Same H1 H2 → LamL H2 f L q cl → Q (.ref f) H2) → uE (fun _ : Unit => X i) (.Name y p) σ H1 Q := fun i σ H s r H1 Q s1 qq =>
  ⟨_, fun _ => pv i, .ref f, r.getRaw hj, qq f H1 (Same.refl _) (lam.mono (s.trans s1))⟩
variable {X : Unit → Cx} {H0 : Hp} {ρ : Env1} {e a b : Expr} {es : List Expr} {Ls Ms : List LW} {L : LW} {pos : Pos}
theorem ema_nil : EMa X H0 ρ [] [] := fun σ H s r H1 Q s1 q => ⟨_, fun _ => pa_nil, q [] H1 (Same.refl _) ⟨rfl, fun i v L e => by cases e⟩⟩
theorem ema_cons (h : EMo X H0 ρ e L) (t : EMa X H0 ρ es Ls) (hs : ∀ i, starEach (e :: es) (X i).env = (false, eval e (X i).env) :: starEach es (X i).env := by intro _; rfl) : EMa X H0 ρ (e :: es) (L :: Ls) := fun σ H s r H1 Q s1 q =>
  ⟨_, fun i => pa_cons (pe_u i) (pa_u i) (hs i), h σ H s r H1 _ s1 fun f H2 s2 lam => t σ H s r H2 _ (s1.trans s2) fun xs H3 s3 kn => q (.ref f :: xs) H3 (s2.trans s3) ⟨by rw [List.length_cons, List.length_cons, kn.1], fun i v M e1 e2 => by
    cases i with
    | zero =>
      cases e1
      cases e2
      exact ⟨f, rfl, lam.mono s3⟩
    | succ i => exact kn.2 i v M (by simpa using e1) (by simpa using e2)⟩⟩
theorem em_list (h : EMa X H0 ρ es Ls) (hz : Ls.length ≤ 1000) : EM X H0 ρ (.List es pos) Ls := fun σ H s r H1 Q s1 q =>
  ⟨_, fun i => pe_lst (pa_u i), h σ H s r H1 _ s1 fun xs H2 s2 kn => ⟨by rw [kn.1]; exact Nat.le_of_lt (small1000 hz), fun p hp => q p xs _ (s2.trans (same_upd hp)) upd_same (kn.mono (same_upd hp))⟩⟩
theorem em_add (ha : EM X H0 ρ a Ls) (hb : EM X H0 ρ b Ms) (hz : Ls.length + Ms.length ≤ 1000) : EM X H0 ρ (.BinOp a .Add b pos) (Ls ++ Ms) := fun σ H s r H1 Q s1 q =>
  ⟨_, fun i => pe_op op_cat (pe_u i) (pe_u i), ha σ H s r H1 _ s1 fun p xs H2 s2 hp kn => hb σ H s r H2 _ (s1.trans s2) fun p' ys H3 s3 hp' kn' =>
    ⟨p, p', xs, ys, rfl, rfl, s3 _ _ hp, hp', by rw [kn.1, kn'.1]; exact Nat.le_of_lt (small1000 hz), fun d hd => q d (xs ++ ys) _ (s2.trans (s3.trans (same_upd hd))) upd_same (((kn.mono s3).append kn').mono (same_upd hd))⟩⟩
theorem em_var {j : Nat} {p : Addr} {xs : List V} (pv : ∀ i, PE (X i) e (tVar j)) (hj : ρ[j]? = some (some (.raw (.ref p)))) (hp : H0 p = some (.lst xs)) (kn : KnL ((X ()).env.qual ++ "<lambda>") (X ()).env.cells Ls xs H0) : EM X H0 ρ e Ls := fun σ H s r H1 Q s1 q =>
  ⟨_, pv, .ref p, r.getRaw hj, q p xs H1 (Same.refl _) ((s.trans s1) _ _ hp) (kn.mono (s.trans s1))⟩
/-- name = a list of lambdas -/
theorem ws_setEM {i : Nat} {y : Str} {pos' : Pos} {D : Ends} {sts : List Stmt} (h : EM X H0 ρ e Ls) {N : List Str} {sc : Scope} (S : Sc X N sc) (q : ∀ p xs H2, Same H0 H2 → H2 p = some (.lst xs) → KnL ((X ()).env.qual ++ "<lambda>") (X ()).env.cells Ls xs H2 → WS X H2 (ρ.set i (some (.raw (.ref p)))) sts D)
    (hi : ∀ i', (X i').N[i]? = some y := by intro _; rfl) (hx : ∀ i', Loc (X i').env.scope y := by intro _; first | exact Or.inl rfl | exact Or.inr rfl)
    (hs : ∀ i', swapsWith e (some (.Name y pos')) pos.line (X i').env = pure false := by intro _; rfl) (hf : ∀ i', (X i').fn y = true ∨ (X i').env.scope.names.lookup y = some .local := by intro _; first | exact Or.inl rfl | exact Or.inr rfl) : WS X H0 ρ (.Assign [.Name y pos'] e pos :: sts) D := .mk fun σ H s r =>
  wb_setU (h σ H s r H _ (Same.refl H) fun p xs H2 s2 hp kn => (q p xs H2 (s.trans s2) hp kn).run _ H2 (Same.refl H2) ((r.mono s2).setRaw)) S.ndx hi hx hs hf
/-- [elt for y in e], e a list of lambdas -/
theorem ev_lcW {elt : Expr} {scope : Scope} {y : Str} {i0 : Nat} {tp : Pos} {ds : List PyData} (Pr : L2.St → Shared → Hp → List Addr → Prop) (hA : ∀ i, At (X i) P w K mg base k) {N : List Str} {sc : Scope} (S : Sc X N sc) (src : EM X H0 ρ e Ls) (hl : Ls.length = ds.length)
    (hPr : ∀ (pins : List (Addr × Obj)) (σ : L2.St) (H : Hp) (s : Shared) (fp : List Addr), Inv (X ()) pins σ H s → (∀ b ∈ fp, FpOk (X ()) pins H b) → Pr σ s H fp)
    (step : ∀ σ H2, Same H0 H2 → RpS H2 σ ρ → ∀ (i : Nat) (L : LW) (d : PyData) (f : Addr), Ls[i]? = some L → ds[i]? = some d → LamL H2 f L ((X ()).env.qual ++ "<lambda>") (cloFrom (X ()).env.cells L.scope.names []) →
      EV (blkP (X ()) scope (Pr σ)) H2 ((wipeR ρ [i0]).set i0 (some (.raw (.ref f)))) elt d)
    (ok : blkC N sc scope [(y, i0)] = true := by decide +kernel) (hi : ∀ i', (X i').N[i0]? = some y := by intro _; rfl) (hx : ∀ Pr (i' : BIx Pr), Loc (blkP (X ()) scope Pr i').env.scope y := by intro _ _; first | exact Or.inl rfl | exact Or.inr rfl)
    (hf : ∀ Pr (i' : BIx Pr), (blkP (X ()) scope Pr i').fn y = true ∨ (blkP (X ()) scope Pr i').env.scope.names.lookup y = some .local := by intro _ _; first | exact Or.inr rfl | exact Or.inl rfl) (hs : ∀ i x, foldedSetIterable e (X i).env x = pure x := by intro _ _; rfl) :
    EV X H0 ρ (.ListComp elt [⟨.Name y tp, e, [], 0⟩] scope pos) (.list ds) := .mk fun σ H s r H1 Q s1 q => by
  refine ⟨_, fun i => pe_lcP (X := X i) (own := [(y, i0)]) (Good := fun σ' => σ' = σ) (Pr := Pr σ) (wi := uI X (.Name y tp) e) (g := gName i0) (tt := uTs (blkP (X ()) scope (Pr σ)) []) (te := uE (blkP (X ()) scope (Pr σ)) elt) (hA i).calm (S.ndx i) (pi_u i) (S.ok ok i) (fun pins σ' H s fp e J hf => by subst e; exact hPr pins σ' H s fp J hf)
    (fun i' => pg_name (S.ndx i) (hi i) (hx _ i') (hf _ i')) (fun i' => pts_u (X := blkP (X ()) scope (Pr σ)) i') (fun i' => pe_u (X := blkP (X ()) scope (Pr σ)) i') (hs i), rfl, ?_⟩
  refine lc_semR (Kn := KnL ((X ()).env.qual ++ "<lambda>") (X ()).env.cells Ls) (fun H1 R s1 q => ui_len ⟨iList K (uE X e), fun i => (hA i).K ▸ pi_list (pe_u i), src σ H s r H1 _ s1 fun p xs H2 s2 hp kn => ⟨_, rfl, ⟨_, SqL.of hp⟩, fun lk => q _ xs H2 s2 (yldR_list hp) kn (lk _ _ (.inl hp))⟩⟩)
    (fun xs i acc => acc = ds.take i) (fun xs => rfl) (fun xs H2 i v acc s2 kn hv pv H' s' => ⟨fun b => b = true, dts_nil, (fun e => by cases e), fun _ => ?_⟩) H1 Q s1 fun v H2 d s2 rv ⟨xs, H3, acc, s3, kn, e1, e2⟩ => q v H2 d s2 rv (by rw [e1, e2, kn.1, hl, List.take_length])
  have hi' : i < Ls.length := by
    rw [← kn.1]
    exact (List.getElem?_eq_some_iff.mp hv).1
  obtain ⟨L, hL⟩ : ∃ L, Ls[i]? = some L := ⟨_, List.getElem?_eq_getElem hi'⟩
  obtain ⟨d, hd⟩ : ∃ d, ds[i]? = some d := ⟨_, List.getElem?_eq_getElem (by rw [← hl]; exact hi')⟩
  obtain ⟨f, rfl, lam⟩ := kn.2 i v L hv hL
  refine ⟨fun x => x = d, (step σ H2 (s.trans s2) (r.mono s2) i L d f hL hd lam).run _ H' s' (((r.mono (s2.trans s')).wipe [i0]).setRaw), fun y' e' => ?_⟩
  rw [e', pv, List.take_succ, hd]
  rfl
end
end SW

set_option Elab.async false
set_option linter.all false
set_option maxRecDepth 100000
set_option maxHeartbeats 2000000
/-! SwTh5: [d(work) for work in e], e a list of lambdas of the running frame. -/
namespace SW
open PySem PySem.Spec PyProof.Rows
open L2 hiding Same
open NdefX (NF NScope CellsAt startF envF ncx inv_startN Caps cells_of slotAt)
variable [Nm]
theorem cells_unx {cl : List (Str × Addr)} {fr : List Str} {ws : List (Option V)} {fs ex : List Addr} {H H' : Hp} {h h' : Heap} (C : CellsAt cl fr ws h H) (un : Un fs ex H H' h h') (hx : ∀ y c, cl.lookup y = some c → c ∉ ex) : CellsAt cl fr ws h' H' := by
  have cellK : ∀ {c : Addr} {v : Option Value}, c ∉ ex → H c = none → h.IsCell c v → h'.IsCell c v := fun {c v} nx n ⟨o, ho, hd⟩ => by
    obtain ⟨sl, q⟩ := un.any ho n nx
    exact ⟨_, q, hd⟩
  refine ⟨C.len, fun y c e => ?_, C.inj, fun i y e => ?_⟩
  · obtain ⟨n, v, z⟩ := C.all y c e
    refine ⟨?_, v, cellK (hx y c e) n z⟩
    obtain ⟨o, ho, _⟩ := z
    exact un.free c o ho n (hx y c e)
  · obtain ⟨c, hc, hv⟩ := C.has i y e
    refine ⟨c, hc, fun v ev => ?_⟩
    obtain ⟨u, r, z⟩ := hv v ev
    exact ⟨u, r, cellK (hx y c hc) (C.all y c hc).1 z⟩
/-- how a lambda's captured names lie in the frame that makes it -/
structure LCap (X : Cx) (L : LW) : Prop where
  free : ∀ z ∈ L.scope.names, z.2 = .free → X.env.scope.names.lookup z.1 = some .cell ∨ X.env.scope.names.lookup z.1 = some .free
  fr : ∀ z ∈ L.fr, (z, NameKind.free) ∈ L.scope.names
  at_ : L.js.map (fun j => X.N[j]?) = L.fr.map some
theorem LCap.caps {X : Cx} {L : LW} (h : LCap X L) (ok : X.Ok) : Caps X (cloFrom X.env.cells L.scope.names []) L.fr L.js := Caps.made ok h.free h.fr h.at_
/-- what a block is told of the lambdas' cells -/
def PrC (X : Cx) (Ls : List LW) (σ : L2.St) (s : Shared) (H : Hp) (fp : List Addr) : Prop := ∀ L ∈ Ls, CellsAt (cloFrom X.env.cells L.scope.names []) L.fr (L.js.map (slotAt σ)) s.heap H ∧ ∀ y c, (cloFrom X.env.cells L.scope.names []).lookup y = some c → c ∉ fp
theorem prC {X : Cx} {Ls : List LW} (h : ∀ L ∈ Ls, LCap X L) : ∀ (pins : List (Addr × Obj)) (σ : L2.St) (H : Hp) (s : Shared) (fp : List Addr), Inv X pins σ H s → (∀ b ∈ fp, FpOk X pins H b) → PrC X Ls σ s H fp := fun pins σ H s fp J hf L hL => by
  have cp := (h L hL).caps J.ok
  refine ⟨cells_of J cp, fun y c e hb => ?_⟩
  exact (hf c hb).2.2.2.2.1 y c (cp.sub y c e) rfl
section
variable {P : Program} {w : World} {K : PySem.W.Frag} {mg : Str → Option Value} {base : Heap} {k : Nat}
variable {X : Unit → Cx} {H0 : Hp} {ρ : Env1} {e : Expr} {Ls : List LW} {pos p p2 pos2 : Pos} {x a : Str} {st : Stmt} {Ng : List Str}
/-- the call in the block -/
theorem ev_work {scope : Scope} {i0 : Nat} {y : Str} {σ : L2.St} {H2 : Hp} {L : LW} {d : PyData} {f : Addr} {dL : List PyData} {c : Value} {fl : Option (List (Str × PyData))} (hA : ∀ i, At (X i) P w K mg base (k + 2)) (hL : L ∈ Ls) (r : RpS H2 σ ρ) (lam : LamL H2 f L ((X ()).env.qual ++ "<lambda>") (cloFrom (X ()).env.cells L.scope.names []))
    (D : Df K mg x st [a]) (Sg : FnScope Ng [a] (defScope st)) (hN0 : Ng[0]? = some a) (hva : Vis (defScope st) a) (hw : Words P w K mg base (k + 1) x a st Ng c fl d) (ok : LWok L) (ra : Rai P w K mg base k L dL c fl)
    (hρ : L.js.map (fun j => (ρ[j]? : Option (Option SD))) = dL.map (fun d => some (some (SD.dat d)))) (hin : i0 < ρ.length)
    (pv : ∀ i, PE (blkP (X ()) scope (PrC (X ()) Ls σ) i) (.Name y p2) (tVar i0))
    (hg : ∀ i, Gl (blkP (X ()) scope (PrC (X ()) Ls σ) i) x := by intro _; rfl) (hdb : (x == ("__debug__" : Str)) = false := by decide) (had : (a == ("__debug__" : Str)) = false := by decide) (hac : (a == ("__classdict__" : Str)) = false := by decide) :
    EV (blkP (X ()) scope (PrC (X ()) Ls σ)) H2 ((wipeR ρ [i0]).set i0 (some (.raw (.ref f)))) (.Call (.Name x p) [.Name y p2] [] pos) d := by
  refine ev_thunk (L := L) (ds := dL) (c := c) (fl := fl) (qn := fun _ => (X ()).env.qual ++ "<lambda>") (cl := fun _ => cloFrom (X ()).env.cells L.scope.names []) (fun i => ⟨(hA ()).prog, (hA ()).w, (hA ()).K, (hA ()).mg, (hA ()).base, (hA ()).calm, (hA ()).room⟩) D Sg hN0 hva hw ok ra (fun i pins σ' H s J sm _ => ?_)
    (al_name pv (by show ((ρ.set i0 none).set i0 _)[i0]? = _; rw [List.set_set, List.getElem?_set_self hin]) lam) hg hdb had hac (fun _ => rfl) (fun _ => rfl)
  obtain ⟨ws, e1, e2⟩ := slots_of r hρ
  obtain ⟨C, nx⟩ := i.2 L hL
  rw [e1] at C
  exact ⟨ws, cells_unx C J.base nx, e2.mono sm⟩
end
end SW

set_option Elab.async false
set_option linter.all false
set_option maxRecDepth 100000
set_option maxHeartbeats 2000000
/-! SwOut: lambdas that outlive the frame that made them: their cells are labelled. -/
namespace SW
open PySem PySem.Spec PyProof.Rows
open L2 hiding Same
open NdefX (NF NScope CellsAt startF envF ncx inv_startN Caps cells_of slotAt)
variable [Nm]
/-- a cell that holds v -/
def CellO (c : Addr) (v : V) : HO := .ext fun h => ∃ u, L2.RelV v u ∧ h.IsCell c (some u)
def offC (H : Hp) (cs : List Addr) : Hp := fun b => if b ∈ cs then none else H b
def onC (H : Hp) (cs : List Addr) (H2 : Hp) : Hp := fun b => if b ∈ cs then H b else H2 b
theorem off_in {H : Hp} {cs : List Addr} {b : Addr} (h : b ∈ cs) : offC H cs b = none := if_pos h
theorem off_out {H : Hp} {cs : List Addr} {b : Addr} (h : b ∉ cs) : offC H cs b = H b := if_neg h
theorem on_in {H H2 : Hp} {cs : List Addr} {b : Addr} (h : b ∈ cs) : onC H cs H2 b = H b := if_pos h
theorem on_out {H H2 : Hp} {cs : List Addr} {b : Addr} (h : b ∉ cs) : onC H cs H2 b = H2 b := if_neg h
theorem off_some {H : Hp} {cs : List Addr} {b : Addr} {o : HO} (h : offC H cs b = some o) : b ∉ cs ∧ H b = some o := by
  by_cases m : b ∈ cs
  · rw [off_in m] at h; cases h
  · rw [off_out m] at h; exact ⟨m, h⟩
/-- all of cs are cells that hold something known -/
def CellsL (H : Hp) (cs : List Addr) : Prop := ∀ c ∈ cs, ∃ v, H c = some (CellO c v)
theorem CellsL.not {H : Hp} {cs : List Addr} (h : CellsL H cs) {b : Addr} {o : HO} (e : H b = some o) (n : ∀ φ, o ≠ .ext φ) : b ∉ cs := fun m => by
  obtain ⟨v, q⟩ := h b m
  rw [e] at q
  exact n _ (Option.some.inj q)
theorem on_ext {H H2 : Hp} {cs : List Addr} (hN : ∀ c ∈ cs, H2 c = none) : ∀ b o, H2 b = some o → onC H cs H2 b = some o := fun b o e => by
  by_cases m : b ∈ cs
  · rw [hN b m] at e; cases e
  · rw [on_out m]; exact e
theorem same_on {H H2 : Hp} {cs : List Addr} (L : CellsL H cs) (hN : ∀ c ∈ cs, H2 c = none) (s : Same (offC H cs) H2) : Same H (onC H cs H2) := by
  refine ⟨fun b o e n => ?_, fun P t => ?_⟩
  · by_cases m : b ∈ cs
    · rw [on_in m]; exact e
    · rw [on_out m]; exact s.at_ b o (by rw [off_out m]; exact e) n
  · obtain ⟨ps, h1, h2, h3⟩ := t
    have nP : P ∉ cs := L.not h1 (fun φ z => by cases z)
    have t' : TabF (offC H cs) P := ⟨ps, by rw [off_out nP]; exact h1, h2, fun pos cv hc => by
      obtain ⟨c, e, oc, vs, tk, a, b⟩ := h3 pos cv hc
      exact ⟨c, e, oc, vs, tk, by rw [off_out (L.not a fun φ z => by cases z)]; exact a, b⟩⟩
    obtain ⟨qs, k1, k2, k3⟩ := s.tab P t'
    exact ⟨qs, on_ext hN _ _ k1, k2, fun pos cv hc => by
      obtain ⟨c, e, oc, vs, tk, a, b⟩ := k3 pos cv hc
      exact ⟨c, e, oc, vs, tk, on_ext hN _ _ a, b⟩⟩
section
variable {P : Program} {w : World} {K : PySem.W.Frag} {mg : Str → Option Value} {base : Heap} {A : Around} {outer : List Env} {s s' : Shared} {H H2 : Hp} {cs : List Addr}
theorem cell_heap {h : Heap} {c : Addr} {v : V} (ok : HOk P w H h) (e : H c = some (CellO c v)) : ∃ u, L2.RelV v u ∧ h.IsCell c (some u) := (show ObjOk P w H h c (CellO c v) from ok c _ e).1
theorem env0_off (e : Env0 P w K mg base A outer s H) (L : CellsL H cs) : Env0 P w K mg base A outer s (offC H cs) := by
  have none_ : ∀ b, H b = none → offC H cs b = none := fun b n => by
    by_cases m : b ∈ cs
    · exact off_in m
    · rw [off_out m]; exact n
  refine ⟨e.frames, e.mod, fun b o q => ⟨(e.bs b o q).1, none_ b (e.bs b o q).2⟩, e.bsz, e.funs, fun b hb => none_ b (e.frf b hb), fun a o q => ?_, e.bare⟩
  obtain ⟨na, q'⟩ := off_some q
  exact (e.hok a o q').stay (fun _ _ _ z => z) (fun b z => by rw [off_out (L.not z fun φ y => by cases y)]; exact z) fun b xs z => by rw [off_out (L.not z fun φ y => by cases y)]; exact z
/-- a cell stays what it is -/
theorem cell_stays {h h' : Heap} {c : Addr} {v : V} (x : ∃ u, L2.RelV v u ∧ h.IsCell c (some u)) (k : ∀ o, h.get? c = some o → ∃ sl, h'.get? c = some { o with slots := sl }) : ObjOk P w (onC H cs H2) h' c (CellO c v) := by
  obtain ⟨u, ru, o, ho, hd⟩ := x
  obtain ⟨sl, q⟩ := k o ho
  exact ⟨⟨u, ru, _, q, hd⟩, ⟨_, q⟩, fun h1 h2 ⟨u, ru, o, ho, hd⟩ st => ⟨u, ru, o, st _ ho, hd⟩⟩
theorem hok_on {h h' : Heap} (L : CellsL H cs) (ok : HOk P w H h) (ok2 : HOk P w H2 h') (hN : ∀ c ∈ cs, H2 c = none) (k : ∀ c ∈ cs, ∀ o, h.get? c = some o → ∃ sl, h'.get? c = some { o with slots := sl }) : HOk P w (onC H cs H2) h' := fun a o q => by
  by_cases m : a ∈ cs
  · rw [on_in m] at q
    obtain ⟨v, e⟩ := L a m
    rw [e] at q
    cases q
    exact cell_stays (cell_heap ok e) (k a m)
  · rw [on_out m] at q
    exact (ok2 a o q).stay (fun _ _ _ z => z) (fun b z => on_ext hN _ _ z) fun b xs z => on_ext hN _ _ z
theorem ce_on {Q Q' : VK} {u : Value} (L : CellsL H cs) (e0 : Env0 P w K mg base A outer s H) (hq : ∀ v H2, (∀ c ∈ cs, H2 c = none) → Q' v H2 → Q v (onC H cs H2)) (z : CE outer P w (offC H cs) s Q' u s') : CE outer P w H s Q u s' := by
  obtain ⟨v, H2, os, bare, un, ok2, rv, q⟩ := z
  have at_ : ∀ c ∈ cs, ∃ o, s.heap.get? c = some o := fun c m => by
    obtain ⟨v, e⟩ := L c m
    obtain ⟨u, _, o, ho, _⟩ := cell_heap e0.hok e
    exact ⟨o, ho⟩
  have hN : ∀ c ∈ cs, H2 c = none := fun c m => by
    obtain ⟨o, ho⟩ := at_ c m
    exact un.free c o ho (off_in m) (by simp)
  have off_ : ∀ b, H b = none → offC H cs b = none ∧ b ∉ cs := fun b n => by
    have m : b ∉ cs := fun m => by obtain ⟨v, e⟩ := L b m; rw [n] at e; cases e
    exact ⟨by rw [off_out m]; exact n, m⟩
  refine ⟨v, onC H cs H2, os, bare, ⟨fun b o ho n => un.keep b o ho (off_ b n).1, fun b o ho n => un.slot b o ho (off_ b n).1, fun b o ho n hx => ?_, un.there, fun b xs e => ?_, fun b o x e => ?_, fun b ps e => ?_⟩, hok_on L e0.hok ok2 hN (fun c m o ho => un.any ho (off_in m) (by simp)), rv, hq v H2 hN q⟩
  · rw [on_out (off_ b n).2]; exact un.free b o ho (off_ b n).1 hx
  · exact on_ext hN _ _ (un.tups b xs (by rw [off_out (L.not e fun φ z => by cases z)]; exact e))
  · exact on_ext hN _ _ (un.frzs b o x (by rw [off_out (L.not e fun φ z => by cases z)]; exact e))
  · obtain ⟨more, q⟩ := un.tbls b ps (by rw [off_out (L.not e fun φ z => by cases z)]; exact e)
    exact ⟨more, on_ext hN _ _ q⟩
theorem cx_on {E E' : XK} {u : Value} (L : CellsL H cs) (e0 : Env0 P w K mg base A outer s H) (hE : ∀ cls d H2, (∀ c ∈ cs, H2 c = none) → E' cls d H2 → E cls d (onC H cs H2)) (z : L2.CX P w outer (offC H cs) s E' u s') : L2.CX P w outer H s E u s' := by
  obtain ⟨a, B, H2, cls, d, rfl, fl, ok2, ub, na, os, ag, e⟩ := z
  have at_ : ∀ c ∈ cs, ∃ o, s.heap.get? c = some o ∧ c ∉ frs outer := fun c m => by
    obtain ⟨v, e⟩ := L c m
    obtain ⟨u, _, o, ho, _⟩ := cell_heap e0.hok e
    exact ⟨o, ho, fun hb => by have := e0.frf c hb; rw [e] at this; cases this⟩
  have hN : ∀ c ∈ cs, H2 c = none := fun c m => by
    obtain ⟨o, ho, _⟩ := at_ c m
    exact ub.free c o ho (off_in m)
  have off_ : ∀ b, H b = none → offC H cs b = none ∧ b ∉ cs := fun b n => by
    have m : b ∉ cs := fun m => by obtain ⟨v, e⟩ := L b m; rw [n] at e; cases e
    exact ⟨by rw [off_out m]; exact n, m⟩
  have nac : a ∉ cs := fun m => by
    obtain ⟨o, ho, nf⟩ := at_ a m
    have q := ub.keep a o ho (off_in m) nf
    have q2 := fl.2.1
    rw [q] at q2
    cases q2
  refine ⟨a, B, onC H cs H2, cls, d, rfl, fl, hok_on L e0.hok ok2 hN (fun c m o ho => ⟨o.slots, ub.keep c o ho (off_in m) (at_ c m |>.choose_spec.2)⟩), ⟨fun b o ho n => ub.keep b o ho (off_ b n).1, ub.slot, fun b o ho n => ?_, ub.there, fun b xs e => ?_, fun b o x e => ?_, fun b ps e => ?_⟩, by rw [on_out nac]; exact na, os, ag, hE cls d H2 hN e⟩
  · rw [on_out (off_ b n).2]; exact ub.free b o ho (off_ b n).1
  · exact on_ext hN _ _ (ub.tups b xs (by rw [off_out (L.not e fun φ z => by cases z)]; exact e))
  · exact on_ext hN _ _ (ub.frzs b o x (by rw [off_out (L.not e fun φ z => by cases z)]; exact e))
  · obtain ⟨more, q⟩ := ub.tbls b ps (by rw [off_out (L.not e fun φ z => by cases z)]; exact e)
    exact ⟨more, on_ext hN _ _ q⟩
end
end SW

set_option Elab.async false
set_option linter.all false
set_option maxRecDepth 100000
set_option maxHeartbeats 2000000
/-! SwOut2: such a lambda is called. -/
namespace SW
open PySem PySem.Spec PyProof.Rows
open L2 hiding Same
open NdefX (NF NScope CellsAt startF envF ncx inv_startN Caps cells_of slotAt)
variable [Nm]
abbrev csOf (cl : List (Str × Addr)) : List Addr := cl.map (·.2)
/-- the lambda's captured names fr hold vs, in labelled cells -/
structure Kept (H : Hp) (cl : List (Str × Addr)) (fr : List Str) (vs : List V) : Prop where
  len : vs.length = fr.length
  inj : ∀ x y c, cl.lookup x = some c → cl.lookup y = some c → x = y
  all : ∀ p ∈ cl, ∃ v, H p.2 = some (CellO p.2 v)
  has : ∀ (i : Nat) (y : Str), fr[i]? = some y → ∃ c v, cl.lookup y = some c ∧ vs[i]? = some v ∧ H c = some (CellO c v)
theorem Kept.mono {H H' : Hp} {cl : List (Str × Addr)} {fr : List Str} {vs : List V} (k : Kept H cl fr vs) (s : Same H H') : Kept H' cl fr vs :=
  ⟨k.len, k.inj, fun p hp => (k.all p hp).elim fun v e => ⟨v, s.at_ _ _ e rfl⟩, fun i y e => let ⟨c, v, h1, h2, h3⟩ := k.has i y e; ⟨c, v, h1, h2, s.at_ _ _ h3 rfl⟩⟩
theorem Kept.cells {H : Hp} {cl : List (Str × Addr)} {fr : List Str} {vs : List V} (k : Kept H cl fr vs) : CellsL H (csOf cl) := fun c m => by
  obtain ⟨p, hp, rfl⟩ := List.mem_map.mp m
  exact k.all p hp
theorem sameE_off {H : Hp} {cs : List Addr} (L : CellsL H cs) : SameE H (offC H cs) := fun b o e n => by
  rw [off_out (L.not e fun φ z => by subst z; cases n)]
  exact e
theorem LamD.off {H : Hp} {cs : List Addr} (L : CellsL H cs) {f c' : Addr} {q : Str} {params : Arguments} {body : Expr} {scope : Scope} {cl : List (Str × Addr)} {dvs : List V} (h : LamD H f c' q params body scope cl dvs) : LamD (offC H cs) f c' q params body scope cl dvs := by
  obtain ⟨dV, doc, pm, ctv, h1, ⟨oc, vs, t, h2, h3⟩, h4⟩ := h
  refine ⟨dV, doc, pm, ctv, by rw [off_out (L.not h1 fun φ z => by cases z)]; exact h1, ⟨oc, vs, t, by rw [off_out (L.not h2 fun φ z => by cases z)]; exact h2, h3⟩, ?_⟩
  rcases h4 with z | ⟨z, T, e, hT⟩
  · exact .inl z
  · exact .inr ⟨z, T, e, by rw [off_out (L.not hT fun φ z => by cases z)]; exact hT⟩
section
variable {P : Program} {w : World} {K : PySem.W.Frag} {mg : Str → Option Value} {base : Heap} {N : List Str} {q : Str} {params : Arguments} {body : Expr} {scope : Scope} {cl : List (Str × Addr)} {k : Nat}
theorem Kept.at_ {H : Hp} {h : Heap} {fr : List Str} {vs : List V} (kp : Kept H cl fr vs) (ok : HOk P w H h) : CellsAt cl fr (vs.map some) h (offC H (csOf cl)) := by
  have mem : ∀ y c, cl.lookup y = some c → c ∈ csOf cl := fun y c e => List.mem_map.mpr ⟨(y, c), PySem.mem_of_lookup e, rfl⟩
  refine ⟨by rw [List.length_map]; exact kp.len, fun y c e => ⟨off_in (mem y c e), ?_⟩, kp.inj, fun i y e => ?_⟩
  · obtain ⟨v, q⟩ := kp.all (y, c) (PySem.mem_of_lookup e)
    obtain ⟨u, _, z⟩ := cell_heap ok q
    exact ⟨_, z⟩
  · obtain ⟨c, v, h1, h2, h3⟩ := kp.has i y e
    refine ⟨c, h1, fun v' e' => ?_⟩
    rw [List.getElem?_map, h2] at e'
    cases e'
    obtain ⟨u, r, z⟩ := cell_heap ok h3
    exact ⟨u, r, z⟩
/-- what is wanted of an exception, the labels off -/
def offE (W : WX) (σ : L2.St) (H : Hp) (cs : List Addr) : XK := fun cls d H2 => (∀ c ∈ cs, H2 c = none) → W cls d σ (onC H cs H2)
variable {CXg : CXT} {Eg : XK} {Ng ps fr : List Str} {qg : Str} {sg : Scope} {g f c' : Addr} {cdg : Value} {A : Around} {stack : List Env} {s : Shared} {H : Hp} {dvs vs : List V} {i : Nat} {a : Str} {pn : List (Addr × Obj)} {xe : Value → Shared → Prop} {W : WX} {p1 p2 : Pos}
theorem pe_actO (S : NScope N ps fr scope) (hb : BindD params body scope ps dvs) (hl : dvs.length = ps.length) (tk : Takes ((cxOf CXg P w K mg base Ng qg sg g cdg A stack s H Eg).tr pn xe) W) (hr : Room (k + 1) (A.deeper (envOfC qg sg s.heap.objs.size g cdg)))
    (hN : Ng[i]? = some a) (hv : Vis sg a) (hd : (a == ("__debug__" : Str)) = false := by decide) (hcd : (a == ("__classdict__" : Str)) = false := by decide) :
    PE ((cxOf CXg P w K mg base Ng qg sg g cdg A stack s H Eg).tr pn xe) (.Call (.Name a p1) [] [] p2)
      (fun σZ HZ Q => σZ[i]? = some (some (.ref f)) ∧ LamD HZ f c' q params body scope cl dvs ∧ Kept HZ cl fr vs ∧ uE (lamFam P w K mg base N q params scope cl k (offE W σZ HZ (csOf cl))) body (startF N dvs (vs.map some)) (offC HZ (csOf cl)) (fun v H2 => (∀ c ∈ csOf cl, H2 c = none) → Q v (onC HZ (csOf cl) H2))) := by
  refine ⟨fun pinsZ sZ σZ HZ Q IZ h => ?_⟩
  obtain ⟨hs, lam, kp, ht⟩ := h
  refine wpAny_Call_Name_kw (thn ((pe_var (pos := p1) (i := i) hN hv hd hcd).run pinsZ sZ σZ HZ (fun v H1 => v = .ref f ∧ H1 = HZ) IZ ⟨.ref f, hs, rfl, rfl⟩) fun u s1 ⟨v, H1, I1, r1, q1⟩ => ?_)
  obtain ⟨ev, eH⟩ := q1
  subst ev
  rw [eH] at I1
  obtain rfl : u = Value.ref f := r1
  have L := kp.cells
  have of1 := lam
  obtain ⟨dV, doc, pm, ctv, hf, _, _⟩ := of1
  have of1 : s1.heap.get? f = some (PySem.W.kdv_obj "<lambda>" q params (.expr body) scope cl dV doc pm c' ctv) := (show ObjOk P w HZ s1.heap f _ from I1.env0.hok f _ hf).1
  refine PySem.W.callWith_F0 ⟨_, _, _, _, of1⟩ ?_
  have e0 := I1.env0
  have rc := lamD_run (CX := L2.CX P w) (K := K) (mg := mg) (base := base) (E := offE W σZ HZ (csOf cl)) (tb := uE (lamFam P w K mg base N q params scope cl k (offE W σZ HZ (csOf cl))) body) S hb hl hr (env0_off e0 L) (lam.off L) (kp.at_ e0.hok) (fun hr2 => pe_u (X := lamFam P w K mg base N q params scope cl k (offE W σZ HZ (csOf cl))) ⟨(_, _, _, _, _, _), hr2⟩) ht
  have hx := passAt tk σZ
  refine wpAny_call (codeAny_mono rc fun r s' hq => ?_)
  cases r with
  | error e => exact hx pinsZ HZ s1 e s' I1 (cx_on L e0 (fun cls d H2 hN z => z hN) hq)
  | ok fl =>
    cases fl with
    | ret u => exact I1.after (ce_on L e0 (fun v H2 hN z => z hN) hq)
    | next => exact False.elim hq
    | brk => exact False.elim hq
    | cont => exact False.elim hq
end
end SW

set_option Elab.async false
set_option linter.all false
set_option maxRecDepth 100000
set_option maxHeartbeats 2000000
/-! SwOut3: d(e), e a lambda of an ended frame; [.. for work in e if d(work) != ..], e a list of such. -/
namespace SW
open PySem PySem.Spec PyProof.Rows
open L2 hiding Same
open NdefX (NF NScope CellsAt startF envF ncx inv_startN Caps cells_of slotAt)
variable [Nm]
theorem FldOk.on {H H2 : Hp} {cs : List Addr} (hN : ∀ c ∈ cs, H2 c = none) {fs : List (Str × V)} {l : List (Str × PyData)} (h : FldOk H2 fs l) : FldOk (onC H cs H2) fs l := fun f d m =>
  let ⟨v, e, r⟩ := h f d m
  ⟨v, e, r.monoE fun b o q _ => on_ext hN b o q⟩
theorem Told.off {fl : Option (List (Str × PyData))} {H : Hp} {cs : List Addr} {W : WX} {σ : L2.St} {c : Value} (L : CellsL H cs) (h : Told fl H fun d H2 => W c d σ H2) : Told fl (offC H cs) fun d H2 => offE W σ H cs c d H2 := by
  cases fl with
  | none => exact fun H2 s2 hN => h _ (same_on L hN s2)
  | some l => exact fun H2 dd fs s2 hd hf hN => h _ dd fs (same_on L hN s2) (on_ext hN _ _ hd) (hf.on hN)
section
variable {I : Type} {X : I → Cx} {H0 : Hp} {ρ : Env1} {e : Expr} {pos p : Pos}
variable {P : Program} {w : World} {K : PySem.W.Frag} {mg : Str → Option Value} {base : Heap} {k : Nat} {x a : Str} {st : Stmt} {Ng : List Str}
theorem ev_thunkO {L : LW} {ds : List PyData} {c : Value} {fl : Option (List (Str × PyData))} {d : PyData} {qn : Str} {cl : List (Str × Addr)} {ws : List V} (hA : ∀ i, At (X i) P w K mg base (k + 2)) (D : Df K mg x st [a]) (Sg : FnScope Ng [a] (defScope st)) (hN0 : Ng[0]? = some a) (hva : Vis (defScope st) a) (hw : Words P w K mg base (k + 1) x a st Ng c fl d)
    (ok : LWok L) (ra : Rai P w K mg base k L ds c fl) (kp : Kept H0 cl L.fr ws) (rws : RpA H0 ws ds)
    (ha : ∀ i σ H, Same H0 H → RpS H σ ρ → ∀ (H1 : Hp) (Q : VK), Same H H1 → (∀ f H2, Same H1 H2 → LamL H2 f L qn cl → Q (.ref f) H2) → uE (fun _ : Unit => X i) e σ H1 Q)
    (hg : ∀ i, Gl (X i) x := by intro _; rfl) (hdb : (x == ("__debug__" : Str)) = false := by decide) (had : (a == ("__debug__" : Str)) = false := by decide) (hac : (a == ("__classdict__" : Str)) = false := by decide)
    (hs : ∀ i, starEach [e] (X i).env = (false, eval e (X i).env) :: starEach [] (X i).env := by intro _; rfl) (hpl : ∀ i, (backTo pos (starEach [] (X i).env)).any (·.1) = false := by intro _; rfl) :
    EV X H0 ρ (.Call (.Name x p) [e] [] pos) d := .mk fun σ H s r H1 Q s1 qq => by
  obtain ⟨g, fd, F, hm, hb⟩ := D
  have hk := F.kp
  obtain ⟨oc, od, kV, doc, pm, an, cdv, ct, osl, rfl, lk, hcd⟩ := F.ex
  refine ⟨fun σ H Q => Same H0 H ∧ RpS H σ ρ ∧ ∀ v H', Same H H' → Rp H' v d → Q v H', fun i => ?_, s.trans s1, r.mono s1, fun v H' s' r' => qq v H' _ s' r' rfl⟩
  clear qq s1 s r
  refine ⟨fun pins s σ H Q J h => ?_⟩
  obtain ⟨s0, rs, fin⟩ := h
  obtain ⟨rfl, rfl, rfl, rfl, rfl, _, hr⟩ := hA i
  refine wpAny_Call_Name_kw (ld_glob J (hg i) hm ?_ hdb)
  refine PySem.W.callWith_K (h₀ := (X i).base) J.ok.mod.kin hk (thn ((pa_cons (pe_u (X := fun _ : Unit => X i) ()) pa_nil (hs i)).run pos pins s σ H (fun vs H1 => match vs with
    | [v] => Same H H1 ∧ ∃ f, v = .ref f ∧ LamL H1 f L qn cl
    | _ => False) J (ha i σ H s0 rs H _ (Same.refl H) fun f H2 s2 lam => ⟨s2, f, rfl, lam⟩)) fun us s1 ⟨vs, H1, I1, r, q⟩ => ⟨I1.kIn, ?_⟩) (hs i) (hpl i)
  match vs, r, q with
  | [v], r, q =>
    obtain ⟨sm, f, rfl, ⟨c', lam⟩⟩ := q
    obtain rfl := Vals.ref1 r
    have s0 := s0.trans sm
    have fin : ∀ v H', Same H1 H' → Rp H' v d → Q v H' := fun v H' s' => fin v H' (sm.trans s')
    have kp := kp.mono s0
    have rws := rws.mono s0
    have rc : codeAny (model (X i).prog (X i).w) (X i).A (.call (.ref g) ⟨[.ref f], []⟩) (CR CX0 (X i).stack (X i).prog (X i).w H1 s1 Q E0) s1 := by
      refine LamX.run_ofS (N := Ng) (ps := [a]) (us := [.ref f]) (vs := [.ref f]) lk hcd Sg hr I1.env0 (by have z := hb s1 [.ref f] I1.kIn rfl; exact z) (.cons rfl .nil) rfl fun hr' => ?_
      have z := (hw g cdv (X i).A (X i).stack s1 H1 Q f (fun _ => ⟨rfl, rfl, rfl, rfl, rfl, rfl, hr'⟩) ⟨Sg.nd, fun _ => rfl, fun _ => rfl⟩ (fun W p1 p2 tw => ?_) fin).run (start Ng [.ref f]) H1 (Same.refl H1) ?_
      · obtain ⟨t', ht', hq'⟩ := z
        exact ⟨t', (ht' ()).nox, hq'⟩
      · refine .mk fun σZ HZ sZ rZ H2 Q2 s2 q2 => ⟨_, fun i' => pe_actO (CXg := CX0) (Eg := E0) (q := qn) (cl := cl) (f := f) (c' := c') (vs := ws) (i := 0) ok.sc ok.bd (by rw [List.length_map]; exact ok.len) i'.2.1 hr' hN0 hva had hac, ?_⟩
        have kz := kp.mono (sZ.trans s2)
        refine ⟨rZ.getRaw rfl, (lam.mono (sZ.trans s2)), kz, ?_⟩
        exact ((ra qn cl (offE W σZ H2 (csOf cl)) (offC H2 (csOf cl)) (Told.off kz.cells ((tw σZ HZ sZ rZ).mono s2))).run _ _ (Same.refl _) (lam_start ((rws.mono (sZ.trans s2)).monoE (sameE_off kz.cells)))) _ _ (Same.refl _) fun _ _ _ _ _ f => f.elim
      · refine ⟨by simp [L2.start], fun j => ?_⟩
        cases j with
        | zero => rfl
        | succ j =>
          rw [List.getElem?_cons_succ, List.getElem?_replicate]
          split <;> trivial
    refine wpAny_call (codeAny_mono rc fun r s2 hq => ?_)
    cases r with
    | error e => exact (show False from hq).elim
    | ok fl =>
      cases fl with
      | ret u => exact I1.after hq
      | next => exact False.elim hq
      | brk => exact False.elim hq
      | cont => exact False.elim hq
end
/-- the values xs are lambdas of ended frames: each with what its captured names hold -/
def KnO (Ls : List (LW × List PyData)) (xs : List V) (H : Hp) : Prop := xs.length = Ls.length ∧ ∀ (i : Nat) (v : V) (L : LW) (ds : List PyData), xs[i]? = some v → Ls[i]? = some (L, ds) →
  ∃ f q cl ws, v = .ref f ∧ LamL H f L q cl ∧ Kept H cl L.fr ws ∧ RpA H ws ds
theorem KnO.mono {Ls : List (LW × List PyData)} {xs : List V} {H H' : Hp} (h : KnO Ls xs H) (s : Same H H') : KnO Ls xs H' := ⟨h.1, fun i v L ds e1 e2 => let ⟨f, q, cl, ws, e, l, k, r⟩ := h.2 i v L ds e1 e2; ⟨f, q, cl, ws, e, l.mono s, k.mono s, r.mono s⟩⟩
/-- an expression that comes to a list of such -/
def EMO (X : Unit → Cx) (H0 : Hp) (ρ : Env1) (e : Expr) (Ls : List (LW × List PyData)) : Prop := ∀ σ H, Same H0 H → RpS H σ ρ → ∀ (H1 : Hp) (Q : VK), Same H H1 → (∀ p xs H2, Same H1 H2 → H2 p = some (.lst xs) → KnO Ls xs H2 → Q (.ref p) H2) → uE X e σ H1 Q
section
variable {P : Program} {w : World} {K : PySem.W.Frag} {mg : Str → Option Value} {base : Heap} {k : Nat}
variable {X : Unit → Cx} {H0 : Hp} {ρ : Env1} {e : Expr} {pos : Pos}
/-- [elt for y in e if c], c true of none -/
theorem ev_lcNo {elt c : Expr} {scope : Scope} {y : Str} {i0 : Nat} {tp : Pos} {Ls : List (LW × List PyData)} (hA : ∀ i, At (X i) P w K mg base k) {N : List Str} {sc : Scope} (S : Sc X N sc) (src : EMO X H0 ρ e Ls)
    (step : ∀ H2, Same H0 H2 → ∀ (i : Nat) (L : LW) (ds : List PyData) (f : Addr) (q : Str) (cl : List (Str × Addr)) (ws : List V), Ls[i]? = some (L, ds) → LamL H2 f L q cl → Kept H2 cl L.fr ws → RpA H2 ws ds →
      EB (blkF X scope) H2 ((wipeR ρ [i0]).set i0 (some (.raw (.ref f)))) c false)
    (ok : blkC N sc scope [(y, i0)] = true := by decide +kernel) (hi : ∀ i', (X i').N[i0]? = some y := by intro _; rfl) (hx : ∀ i', Loc (blkF X scope i').env.scope y := by intro _; first | exact Or.inl rfl | exact Or.inr rfl)
    (hf : ∀ i', (blkF X scope i').fn y = true ∨ (blkF X scope i').env.scope.names.lookup y = some .local := by intro _; first | exact Or.inr rfl | exact Or.inl rfl) (hs : ∀ i x, foldedSetIterable e (X i).env x = pure x := by intro _ _; rfl) :
    EV X H0 ρ (.ListComp elt [⟨.Name y tp, e, [c], 0⟩] scope pos) (.list []) := .mk fun σ H s r H1 Q s1 q => by
  refine ⟨_, fun i => pe_lc (X := X i) (own := [(y, i0)]) (wi := uI X (.Name y tp) e) (g := gName i0) (tt := uTs (blkF X scope) [c]) (te := uE (blkF X scope) elt) (hA i).calm (S.ndx i) (pi_u i) (S.ok ok i) (fun s H C cl fp => pg_name (S.ndx i) (hi i) (hx (i, s, H, C, cl, fp)) (hf (i, s, H, C, cl, fp))) (fun s H C cl fp => pts_u (X := blkF X scope) (i, s, H, C, cl, fp)) (fun s H C cl fp => pe_u (X := blkF X scope) (i, s, H, C, cl, fp)) (hs i), ?_⟩
  refine lc_semR (Kn := KnO Ls) (fun H1 R s1 q => ui_len ⟨iList K (uE X e), fun i => (hA i).K ▸ pi_list (pe_u i), src σ H s r H1 _ s1 fun p xs H2 s2 hp kn => ⟨_, rfl, ⟨_, SqL.of hp⟩, fun lk => q _ xs H2 s2 (yldR_list hp) kn (lk _ _ (.inl hp))⟩⟩)
    (fun xs i acc => acc = []) (fun xs => rfl) (fun xs H2 i v acc s2 kn hv pv H' s' => ⟨fun b => b = false, ?_, fun _ => pv, fun e => by cases e⟩) H1 Q s1 fun v H2 d s2 rv ⟨xs, H3, acc, s3, kn, e1, e2⟩ => q v H2 d s2 rv (by rw [e1, e2])
  have hi' : i < Ls.length := by
    rw [← kn.1]
    exact (List.getElem?_eq_some_iff.mp hv).1
  obtain ⟨⟨L, ds⟩, hL⟩ : ∃ L, Ls[i]? = some L := ⟨_, List.getElem?_eq_getElem hi'⟩
  obtain ⟨f, qn, cl, ws, rfl, lam, kp, ra⟩ := kn.2 i v L ds hv hL
  exact dts_one ((step H2 (s.trans s2) i L ds f qn cl ws hL lam kp ra).run _ H' s' (((r.mono (s2.trans s')).wipe [i0]).setRaw))
end
end SW

set_option Elab.async false
set_option linter.all false
set_option maxRecDepth 100000
set_option maxHeartbeats 2000000
/-! SwOut4: a def that returns a list of lambdas: at its end its cells are labelled. -/
namespace SW
open PySem PySem.Spec PyProof.Rows
open L2 hiding Same
open LamX (TabB)
open NdefX (NF NScope CellsAt startF envF ncx inv_startN Caps cells_of slotAt)
variable [Nm]
theorem execs_app (env : Env) : ∀ a b : List Stmt, execs (a ++ b) env = execs a env >>= fun f => match f with | .next => execs b env | f => pure f
  | [], b => by
    rw [List.nil_append, execs_nil, pure_bind]
  | s :: a, b => by
    rw [List.cons_append, execs_cons, execs_cons, bind_assoc]
    refine congrArg _ (funext fun f => ?_)
    cases f with
    | next => exact execs_app env a b
    | ret v => rw [pure_bind]
    | brk => rw [pure_bind]
    | cont => rw [pure_bind]
/-- a def that ends with a return: told of the state behind it -/
theorem run_end {X : Cx} {init : List Stmt} {e : Expr} {pos : Pos} {pins : List (Addr × Obj)} {s : Shared} {σ : L2.St} {H : Hp} {R : V → L2.St → Hp → Prop} (I : Inv X pins σ H s)
    (h : uB (fun _ : Unit => X) init { nx := fun σ H => uE (fun _ : Unit => X) e σ H fun v H' => R v σ H', rt := fun _ _ => False } σ H) :
    wpAny (model X.prog X.w) X.A (execs (init ++ [.Return (some e) pos]) X.env) (fun fl s' => ∃ u v σ' H', fl = .ret u ∧ Inv X pins σ' H' s' ∧ L2.RelV v u ∧ R v σ' H') X.xe s := by
  rw [execs_app]
  refine wpAny_bind (thn ((pb_u (X := fun _ : Unit => X) ()).run pins s σ H _ I h) fun f s1 q => ?_)
  cases f with
  | next =>
    obtain ⟨σ', H', I', q⟩ := q
    exact wpAny_execs_cons (wpAny_Return_some (thn ((pe_u (X := fun _ : Unit => X) ()).run pins s1 σ' H' _ I' q) fun u s2 ⟨v, H2, I2, r2, q2⟩ => ⟨u, v, σ', H2, rfl, I2, r2, q2⟩))
  | ret v =>
    obtain ⟨_, _, _, _, _, q⟩ := q
    exact q.elim
  | brk =>
    obtain ⟨_, _, _, q⟩ := q
    exact False.elim q
  | cont =>
    obtain ⟨_, _, _, q⟩ := q
    exact False.elim q
/-- the cells of some names, with what they hold -/
def cvOf (cells : List (Str × Addr)) : List (Str × V) → List (Addr × V)
  | [] => []
  | p :: r => match cells.lookup p.1 with
    | some c => (c, p.2) :: cvOf cells r
    | none => cvOf cells r
theorem cv_mem {cells : List (Str × Addr)} {c : Addr} {v : V} : ∀ {yv : List (Str × V)}, (cvOf cells yv).lookup c = some v → ∃ y, (y, v) ∈ yv ∧ cells.lookup y = some c
  | [], e => by cases e
  | p :: r, e => by
    unfold cvOf at e
    cases h : cells.lookup p.1 with
    | none =>
      rw [h] at e
      obtain ⟨y, m, q⟩ := cv_mem e
      exact ⟨y, List.mem_cons_of_mem _ m, q⟩
    | some c0 =>
      rw [h] at e
      by_cases hc : c = c0
      · subst hc
        rw [List.lookup_cons_self] at e
        cases e
        exact ⟨p.1, List.mem_cons_self, h⟩
      · rw [List.lookup_cons, beq_false_of_ne hc] at e
        obtain ⟨y, m, q⟩ := cv_mem e
        exact ⟨y, List.mem_cons_of_mem _ m, q⟩
theorem cv_get {cells : List (Str × Addr)} (inj : ∀ x y c, cells.lookup x = some c → cells.lookup y = some c → x = y) {y : Str} {c : Addr} {v : V} (hc : cells.lookup y = some c) : ∀ {yv : List (Str × V)}, (yv.map (·.1)).Nodup → (y, v) ∈ yv → (cvOf cells yv).lookup c = some v
  | p :: r, nd, m => by
    rw [List.map_cons, List.nodup_cons] at nd
    unfold cvOf
    rcases List.mem_cons.mp m with h | h
    · subst h
      rw [hc]
      exact List.lookup_cons_self
    · cases hp : cells.lookup p.1 with
      | none => exact cv_get inj hc nd.2 h
      | some c0 =>
        have ne : c ≠ c0 := fun e => by
          subst e
          have := inj _ _ _ hc hp
          exact nd.1 (this ▸ List.mem_map.mpr ⟨_, h, rfl⟩)
        show ((c0, p.2) :: cvOf cells r).lookup c = some v
        rw [List.lookup_cons, beq_false_of_ne ne]
        exact cv_get inj hc nd.2 h
def labC (cv : List (Addr × V)) (H : Hp) : Hp := fun b => match cv.lookup b with
  | some v => some (CellO b v)
  | none => H b
theorem lab_in {cv : List (Addr × V)} {H : Hp} {c : Addr} {v : V} (h : cv.lookup c = some v) : labC cv H c = some (CellO c v) := by
  unfold labC
  rw [h]
theorem lab_out {cv : List (Addr × V)} {H : Hp} {c : Addr} (h : cv.lookup c = none) : labC cv H c = H c := by
  unfold labC
  rw [h]
theorem lab_ext {cv : List (Addr × V)} {H : Hp} (hN : ∀ c v, cv.lookup c = some v → H c = none) {b : Addr} {o : HO} (e : H b = some o) : labC cv H b = some o := by
  cases h : cv.lookup b with
  | none => rw [lab_out h]; exact e
  | some v => rw [hN b v h] at e; cases e
theorem same_lab {cv : List (Addr × V)} {H : Hp} (hN : ∀ c v, cv.lookup c = some v → H c = none) : Same H (labC cv H) := Same.of fun b o e => lab_ext hN e
section
variable {CX : CXT} {P : Program} {w : World} {K : PySem.W.Frag} {mg : Str → Option Value} {base : Heap} {N : List Str} {qual : Str} {scope : Scope} {f : Addr} {cd : Value} {A : Around} {outer : List Env} {s s' : Shared} {H H' : Hp} {E : XK} {pins : List (Addr × Obj)} {σ' : L2.St} {v : V} {u : Value} {Q : VK} {cv : List (Addr × V)}
theorem end_lab (J : Inv (cxOf CX P w K mg base N qual scope f cd A outer s H E).nox pins σ' H' s') (hcv : ∀ c v, cv.lookup c = some v → s.heap.objs.size ≤ c ∧ H' c = none ∧ ∃ u, L2.RelV v u ∧ s'.heap.IsCell c (some u)) (rv : L2.RelV v u) (q : Q v (labC cv H')) : CE outer P w H s Q u s' := by
  have hN : ∀ c v, cv.lookup c = some v → H' c = none := fun c v e => (hcv c v e).2.1
  have un : Un (frs outer) [] H H' s.heap s'.heap := J.base
  refine ⟨v, labC cv H', J.os, J.bare, ⟨un.keep, un.slot, fun b o ho n hx => ?_, un.there, fun b xs e => lab_ext hN (un.tups b xs e), fun b o x e => lab_ext hN (un.frzs b o x e), fun b ps e => ?_⟩, fun b o e => ?_, rv, q⟩
  · cases h : cv.lookup b with
    | none => rw [lab_out h]; exact un.free b o ho n hx
    | some v => exact absurd (Nat.lt_of_lt_of_le (Heap.lt_size ho) (hcv b v h).1) (Nat.lt_irrefl _)
  · obtain ⟨more, z⟩ := un.tbls b ps e
    exact ⟨more, lab_ext hN z⟩
  · cases h : cv.lookup b with
    | none =>
      rw [lab_out h] at e
      exact (J.hok b o e).stay (fun _ _ _ z => z) (fun b z => lab_ext hN z) fun b xs z => lab_ext hN z
    | some v0 =>
      rw [lab_in h] at e
      cases e
      obtain ⟨_, _, u0, ru, ob, ho, hd⟩ := hcv b v0 h
      exact ⟨⟨u0, ru, ob, ho, hd⟩, ⟨_, ho⟩, fun h1 h2 ⟨u, ru, o, ho, hd⟩ st => ⟨u, ru, o, st _ ho, hd⟩⟩
end
/-- how a lambda captures the arguments of the def that makes it -/
structure LCapA (ps : List Str) (sc : Scope) (L : LW) : Prop where
  free : ∀ z ∈ L.scope.names, z.2 = .free → z.1 ∈ ps
  fr : ∀ z ∈ L.fr, (z, NameKind.free) ∈ L.scope.names
  at_ : L.js.map (fun j => ps[j]?) = L.fr.map some
/-- what such a def promises: its arguments' data in hand, the lambdas -/
def spLams (t : Addr) (Ls : List LW) (n : Nat) : Sp := fun vs H Q _ => vs.length = n ∧ TabF H t ∧ ∃ ds, RpA H vs ds ∧ ∀ p xs H', Same H H' → H' p = some (.lst xs) → KnO (Ls.map fun L => (L, L.js.map fun j => ds.getD j .none)) xs H' → Q (.ref p) H'
section
variable {P : Program} {w : World} {K : PySem.W.Frag} {mg : Str → Option Value} {base : Heap} {k : Nat} {x : Str} {ps : List Str} {st : Stmt} {c t : Addr}
theorem DfC.fnL {N : List Str} {Ls : List LW} {init : List Stmt} {e : Expr} {pos : Pos} (D : DfC K mg x st ps c) (S : FnScope N ps (defScope st)) (hb : defBody st = init ++ [.Return (some e) pos]) (nd : ps.Nodup) (hN : ∀ (j : Nat) (y : Str), ps[j]? = some y → N[j]? = some y)
    (hc : ∀ y ∈ ps, (defScope st).names.lookup y = some .cell) (cap : ∀ L ∈ Ls, LCapA ps (defScope st) L)
    (h : ∀ (f : Addr) (A : Around) (outer : List Env) (s : Shared) (H1 H0 : Hp) (ds : List PyData), (∀ i, At (bdF P w K mg base N x (defScope st) f (.ref c) A outer s H1 i) P w K mg base k) → Sc (bdF P w K mg base N x (defScope st) f (.ref c) A outer s H1) N (defScope st) → TabF H0 t → ds.length = ps.length →
      WS (bdF P w K mg base N x (defScope st) f (.ref c) A outer s H1) H0 ((ds.map fun d => some (SD.dat d)) ++ List.replicate (N.length - ps.length) none) init
        { nx := fun σ H => uE (bdF P w K mg base N x (defScope st) f (.ref c) A outer s H1) e σ H fun v H' => ∃ p xs, v = .ref p ∧ Same H0 H' ∧ H' p = some (.lst xs) ∧ KnL ((bdF P w K mg base N x (defScope st) f (.ref c) A outer s H1 ()).env.qual ++ "<lambda>") (bdF P w K mg base N x (defScope st) f (.ref c) A outer s H1 ()).env.cells Ls xs H' ∧ (∀ (j : Nat) (d : PyData), ds[j]? = some d → ∃ u, σ[j]? = some (some u) ∧ Rp H' u d), rt := fun _ _ => False }) :
    Fn P w K mg base (k + 1) x ps (spLams t Ls ps.length) := by
  obtain ⟨f, oc, od, kV, doc, pm, an, ct, osl, lk, hcd, kp, hm, hbd⟩ := D
  refine ⟨f, _, ⟨fun vs H Q E h => h.1, fun A outer s H args us vs Q E hr e0 hbi r hsp => ?_⟩, hm, kp, hbd⟩
  obtain ⟨hl, ht, ds, ra, q⟩ := hsp
  have KX : K.In s.heap := e0.mod.kin.keeps fun b o e => (e0.bs b o e).1
  have lim : s.heap.NoLimit := e0.mod.nolimit.keeps fun b o e => (e0.bs b o e).1
  have hkind : ∀ y ∈ ps.zip us, (defScope st).names.lookup y.1 = some .local ∨ ((defScope st).names.lookup y.1 = some .cell ∧ ((cellsFrom (s.heap.objs.size + 1) (defScope st).names []).lookup y.1).isSome = true) := fun ⟨n, v⟩ hy =>
    .inr ⟨hc n (List.of_mem_zip hy).1, PySem.W.cellsFrom_some _ _ _ (.inl (hc n (List.of_mem_zip hy).1))⟩
  refine codeAny_call_function hr.depth (KX _ _ lk) rfl S.co S.gen rfl (PySem.W.codeRec_of KX hcd) (hbi _ _ _ _ (wpAny_newFunctionEnv_cells S.kind hkind fun env he s1 xx => ?_))
  subst he
  refine ⟨lim.keeps xx.toInCall.keep, codeAny_func ?_⟩
  have I : Inv (cxOf CX0 P w K mg base N x (defScope st) f (.ref c) A outer s H E) [] (L2.start N vs) H s1 := inv_start S hr.hd e0 hl r xx
  have hds : ds.length = ps.length := by rw [← ra.length]; exact hl
  have r0 := ra.start (N.length - vs.length)
  have z := (h f A outer s H H ds (fun _ => ⟨rfl, rfl, rfl, rfl, rfl, rfl, hr.deeper _⟩) ⟨S.nd, fun _ => rfl, fun _ => rfl⟩ ht hds).run (L2.start N vs) H (Same.refl H) (by
    rw [← hl]
    exact r0)
  have fin := run_end (pos := pos) (show Inv (bdF P w K mg base N x (defScope st) f (.ref c) A outer s H ()) [] (L2.start N vs) H s1 from I.wish _) z
  rw [← hb] at fin
  refine wpAny_mono fin (fun fl s' ⟨u, v, σ', H', efl, J, rv, p, xs, ev, s2, hp, kn, hs⟩ => ?_) fun e s' z => False.elim z
  subst efl ev
  -- the cells of the arguments
  obtain ⟨ns, en⟩ : ∃ ns : List V, ns.length = ps.length ∧ (∀ (j : Nat) (d : PyData) (u : V), ds[j]? = some d → ns[j]? = some u → σ'[j]? = some (some u) ∧ Rp H' u d) := by
    have : ∀ n, n ≤ ps.length → ∃ ns : List V, ns.length = n ∧ ∀ (j : Nat) (d : PyData) (u : V), ds[j]? = some d → ns[j]? = some u → σ'[j]? = some (some u) ∧ Rp H' u d := fun n => by
      induction n with
      | zero => exact fun _ => ⟨[], rfl, fun j d u _ e => by cases e⟩
      | succ n ih =>
        intro hn
        obtain ⟨ns, hl, q⟩ := ih (by omega)
        obtain ⟨u, e1, e2⟩ := hs n _ (List.getElem?_eq_getElem (show n < ds.length by omega))
        refine ⟨ns ++ [u], by rw [List.length_append, hl] <;> rfl, fun j d u' hd hu => ?_⟩
        by_cases hj : j < ns.length
        · rw [List.getElem?_append_left hj] at hu
          exact q j d u' hd hu
        · have hj2 : j = ns.length := by
            have := (List.getElem?_eq_some_iff.mp hu).1
            rw [List.length_append, List.length_singleton] at this
            omega
          subst hj2
          rw [List.getElem?_append_right (Nat.le_refl _), Nat.sub_self] at hu
          cases hu
          rw [hl] at hd ⊢
          rw [List.getElem?_eq_getElem (show n < ds.length by omega)] at hd
          cases hd
          exact ⟨e1, e2⟩
    exact this _ (Nat.le_refl _)
  obtain ⟨hnl, hns⟩ := en
  have ok := J.ok
  have zipAt : ∀ y v, (y, v) ∈ ps.zip ns → ∃ j : Nat, ps[j]? = some y ∧ ns[j]? = some v := fun y v m => by
    obtain ⟨j, hj⟩ := List.getElem?_of_mem m
    exact ⟨j, (List.getElem?_zip_eq_some.mp hj).1, (List.getElem?_zip_eq_some.mp hj).2⟩
  have ndz : ((ps.zip ns).map (·.1)).Nodup := by
    rw [List.map_fst_zip (by omega)]
    exact nd
  have cellAt : ∀ y v, (y, v) ∈ ps.zip ns → ∀ cc, (bdF P w K mg base N x (defScope st) f (.ref c) A outer s H ()).env.cells.lookup y = some cc → ∃ u, L2.RelV v u ∧ s'.heap.IsCell cc (some u) := fun y v m cc hcc => by
    obtain ⟨j, h1, h2⟩ := zipAt y v m
    have hj : j < ds.length := by rw [hds]; exact (List.getElem?_eq_some_iff.mp h1).1
    obtain ⟨e1, _⟩ := hns j _ v (List.getElem?_eq_getElem hj) h2
    obtain ⟨mm, _, loc⟩ := J.loc
    have hy := hc y (List.mem_of_getElem? h1)
    obtain ⟨u, ru, lk⟩ := loc j y v (hN j y h1) e1 (.inr (.inl hy))
    rcases lk with ⟨k1, _⟩ | ⟨_, c2, hc2, ic⟩
    · have k1 : (defScope st).names.lookup y = some .local := k1
      rw [hy] at k1
      cases k1
    · rw [hcc] at hc2
      cases hc2
      exact ⟨u, ru, ic⟩
  have hcv : ∀ cc v, (cvOf (bdF P w K mg base N x (defScope st) f (.ref c) A outer s H ()).env.cells (ps.zip ns)).lookup cc = some v → s.heap.objs.size ≤ cc ∧ H' cc = none ∧ ∃ u, L2.RelV v u ∧ s'.heap.IsCell cc (some u) := fun cc v e => by
    obtain ⟨y, m, hcc⟩ := cv_mem e
    exact ⟨ok.cab y cc rfl hcc, J.freeC y cc hcc, cellAt y v m cc hcc⟩
  refine end_lab J hcv rv ?_
  have sl : Same H' (labC (cvOf (bdF P w K mg base N x (defScope st) f (.ref c) A outer s H ()).env.cells (ps.zip ns)) H') := same_lab fun c v e => (hcv c v e).2.1
  refine q p xs _ (s2.trans sl) (sl _ _ hp) ⟨by rw [kn.1, List.length_map], fun i v L dl e1 e2 => ?_⟩
  rw [List.getElem?_map] at e2
  cases hL : Ls[i]? with
  | none => rw [hL] at e2; cases e2
  | some L0 =>
    rw [hL] at e2
    cases e2
    obtain ⟨fa, rfl, lam⟩ := kn.2 i v L e1 hL
    have ca := cap L (List.mem_of_getElem? hL)
    have hf : ∀ y ∈ L.scope.names, y.2 = .free → ∃ c', (bdF P w K mg base N x (defScope st) f (.ref c) A outer s H ()).env.cells.lookup y.1 = some c' := fun y hy e => ok.has _ (.inl (hc y.1 (ca.free y hy e)))
    have memZ : ∀ y ∈ ps, ∃ v, (y, v) ∈ ps.zip ns := fun y hy => by
      obtain ⟨j, hj⟩ := List.getElem?_of_mem hy
      have lt := (List.getElem?_eq_some_iff.mp hj).1
      refine ⟨ns[j]'(by omega), List.mem_of_getElem? (i := j) ?_⟩
      exact List.getElem?_zip_eq_some.mpr ⟨hj, List.getElem?_eq_getElem _⟩
    have lenJ : L.js.length = L.fr.length := by
      have := congrArg List.length ca.at_
      rw [List.length_map, List.length_map] at this
      exact this
    have jAt : ∀ (i : Nat) (y : Str), L.fr[i]? = some y → ∃ j : Nat, L.js[i]? = some j ∧ ps[j]? = some y := fun i y e => by
      have z : (L.js.map fun j => ps[j]?)[i]? = some (some y) := by
        rw [ca.at_, List.getElem?_map, e] <;> rfl
      rw [List.getElem?_map] at z
      cases ej : L.js[i]? with
      | none => rw [ej] at z; cases z
      | some j => rw [ej] at z; exact ⟨j, rfl, Option.some.inj z⟩
    refine ⟨fa, _, _, L.js.map fun j => ns.getD j .non, rfl, lam.mono sl, ⟨by rw [List.length_map]; exact lenJ, fun y z cc h1 h2 => ok.inj y z cc (NdefX.clo_cm hf h1) (NdefX.clo_cm hf h2), fun pr hpr => ?_, fun i y e => ?_⟩, ?_⟩
    · rcases cloFrom_mem (n := pr.1) (c := pr.2) hpr with m | ⟨m, e⟩
      · cases m
      · obtain ⟨c', hc'⟩ := hf _ m rfl
        rw [hc'] at e
        have e : pr.2 = c' := e
        obtain ⟨v, mv⟩ := memZ pr.1 (ca.free _ m rfl)
        refine ⟨v, lab_in ?_⟩
        rw [e]
        exact cv_get ok.inj hc' ndz mv
    · obtain ⟨j, ej, ep⟩ := jAt i y e
      have hy : y ∈ ps := List.mem_of_getElem? ep
      have hfr := ca.fr y (List.mem_of_getElem? e)
      obtain ⟨cc, hcc⟩ := hf _ hfr rfl
      have lt : j < ns.length := by
        have := (List.getElem?_eq_some_iff.mp ep).1
        omega
      refine ⟨cc, ns[j], NdefX.clo_has hf hfr hcc, ?_, lab_in (cv_get ok.inj hcc ndz (List.mem_of_getElem? (i := j) (List.getElem?_zip_eq_some.mpr ⟨ep, List.getElem?_eq_getElem lt⟩)))⟩
      rw [List.getElem?_map, ej]
      show some (ns.getD j .non) = _
      rw [List.getD_eq_getElem?_getD, List.getElem?_eq_getElem lt] <;> rfl
    · have all : ∀ js : List Nat, (∀ j ∈ js, j < ps.length) → RpA (labC (cvOf (bdF P w K mg base N x (defScope st) f (.ref c) A outer s H ()).env.cells (ps.zip ns)) H') (js.map fun j => ns.getD j .non) (js.map fun j => ds.getD j .none) := fun js => by
        induction js with
        | nil => exact fun _ => .nil
        | cons j js ih =>
          intro hj
          have lt := hj j List.mem_cons_self
          refine .cons ?_ (ih fun j h => hj j (List.mem_cons_of_mem _ h))
          show Rp _ (ns.getD j .non) (ds.getD j .none)
          rw [List.getD_eq_getElem?_getD, List.getD_eq_getElem?_getD, List.getElem?_eq_getElem (show j < ns.length by omega), List.getElem?_eq_getElem (show j < ds.length by omega)]
          exact (hns j _ _ (List.getElem?_eq_getElem _) (List.getElem?_eq_getElem _)).2.mono sl
      refine all _ fun j hj => ?_
      obtain ⟨i, ei⟩ := List.getElem?_of_mem hj
      have li := (List.getElem?_eq_some_iff.mp ei).1
      rw [lenJ] at li
      obtain ⟨j', e1, e2⟩ := jAt i _ (List.getElem?_eq_getElem li)
      rw [ei] at e1
      cases e1
      exact (List.getElem?_eq_some_iff.mp e2).1
end
end SW

set_option Elab.async false
set_option linter.all false
set_option maxRecDepth 100000
set_option maxHeartbeats 2000000
/-! Skd3: _law_web_calls, _law_net_calls: the lambdas that they return, what each raises (printed by a script, then kept by hand). -/
namespace SK
open PySem SW
open L2 hiding Same
open LamX (TabB)
def rhsOf : Stmt → Expr
  | .Assign _ e _ => e
  | .Return (some e) _ => e
  | _ => .Constant .none 0 ⟨0, 0, 0, 0⟩
def eltsOf : Expr → List Expr
  | .List es _ => es
  | .BinOp _ _ (.List es _) _ => es
  | _ => []
def lamIn (b : List Stmt) (i j : Nat) : Expr := (eltsOf (rhsOf (b.getD i (.Pass ⟨0, 0, 0, 0⟩)))).getD j (.Constant .none 0 ⟨0, 0, 0, 0⟩)
def lwP : Expr → Arguments
  | .Lambda p _ _ _ => p
  | _ => ⟨[], [], none, [], [], none, []⟩
def lwB : Expr → Expr
  | .Lambda _ b _ _ => b
  | e => e
def lwS : Expr → Scope
  | .Lambda _ _ s _ => s
  | _ => defScope s_law
abbrev lwOf (e : Expr) (N ps fr : List Str) (js : List Nat) (dn : List Int) : LW := ⟨lwP e, lwB e, lwS e, N, ps, fr, js, dn⟩
theorem bind0 {params : Arguments} {body : Expr} {scope : Scope} (h : ∀ (q : Str) (cl : List (Str × Addr)) (doc pm cdv ctv : Value), bindArgs (PySem.W.kdv_fn "<lambda>" q params (.expr body) scope cl .none doc pm cdv ctv) ⟨[], []⟩ = pure []) : BindD params body scope [] (([] : List Int).map V.int) := ⟨fun _ q cl doc pm cdv ctv => h q cl doc pm cdv ctv, fun h => absurd rfl h⟩
theorem bind1 {params : Arguments} {body : Expr} {scope : Scope} {ps : List Str} (h : ∀ (q : Str) (cl : List (Str × Addr)) (T : Addr) (doc pm cdv ctv u : Value), ∃ k, bindArgs (PySem.W.kdv_fn "<lambda>" q params (.expr body) scope cl (.ref T) doc pm cdv ctv) ⟨[], []⟩ = seqItems? (.ref T) >>= k ∧ k (some [u].toArray) = pure (ps.zip [u])) : BindD params body scope ps ([(0 : Int)].map V.int) :=
  ⟨fun e => (by cases e), fun _ q cl T doc pm cdv ctv its hl => match its, hl with | [u], _ => h q cl T doc pm cdv ctv u⟩
def W00 : LW := lwOf (lamIn (defBody s_law_web_calls) 0 0) ["bad"] [] ["bad"] [0] []
theorem ok_W00 : LWok W00 := ⟨NdefX.nscope_by (by decide +kernel), bind0 fun _ _ _ _ _ _ => rfl, rfl⟩
def W01 : LW := lwOf (lamIn (defBody s_law_web_calls) 0 1) ["a", "bad"] ["a"] ["bad"] [0] [0]
theorem ok_W01 : LWok W01 := ⟨NdefX.nscope_by (by decide +kernel), bind1 fun _ _ _ _ _ _ _ _ => ⟨_, rfl, rfl⟩, rfl⟩
def W10 : LW := lwOf (lamIn (defBody s_law_web_calls) 1 0) ["b", "bad"] ["b"] ["bad"] [0] [0]
theorem ok_W10 : LWok W10 := ⟨NdefX.nscope_by (by decide +kernel), bind1 fun _ _ _ _ _ _ _ _ => ⟨_, rfl, rfl⟩, rfl⟩
def W11 : LW := lwOf (lamIn (defBody s_law_web_calls) 1 1) ["c", "bad"] ["c"] ["bad"] [0] [0]
theorem ok_W11 : LWok W11 := ⟨NdefX.nscope_by (by decide +kernel), bind1 fun _ _ _ _ _ _ _ _ => ⟨_, rfl, rfl⟩, rfl⟩
def W20 : LW := lwOf (lamIn (defBody s_law_web_calls) 2 0) ["bad"] [] ["bad"] [0] []
theorem ok_W20 : LWok W20 := ⟨NdefX.nscope_by (by decide +kernel), bind0 fun _ _ _ _ _ _ => rfl, rfl⟩
def W30 : LW := lwOf (lamIn (defBody s_law_web_calls) 3 0) ["a", "good", "bad"] ["a"] ["good", "bad"] [1, 0] [0]
theorem ok_W30 : LWok W30 := ⟨NdefX.nscope_by (by decide +kernel), bind1 fun _ _ _ _ _ _ _ _ => ⟨_, rfl, rfl⟩, rfl⟩
def W31 : LW := lwOf (lamIn (defBody s_law_web_calls) 3 1) ["b", "bad"] ["b"] ["bad"] [0] [0]
theorem ok_W31 : LWok W31 := ⟨NdefX.nscope_by (by decide +kernel), bind1 fun _ _ _ _ _ _ _ _ => ⟨_, rfl, rfl⟩, rfl⟩
def W40 : LW := lwOf (lamIn (defBody s_law_web_calls) 4 0) ["bad"] [] ["bad"] [0] []
theorem ok_W40 : LWok W40 := ⟨NdefX.nscope_by (by decide +kernel), bind0 fun _ _ _ _ _ _ => rfl, rfl⟩
def W41 : LW := lwOf (lamIn (defBody s_law_web_calls) 4 1) ["a", "bad"] ["a"] ["bad"] [0] [0]
theorem ok_W41 : LWok W41 := ⟨NdefX.nscope_by (by decide +kernel), bind1 fun _ _ _ _ _ _ _ _ => ⟨_, rfl, rfl⟩, rfl⟩
def W50 : LW := lwOf (lamIn (defBody s_law_web_calls) 5 0) ["b", "bad"] ["b"] ["bad"] [0] [0]
theorem ok_W50 : LWok W50 := ⟨NdefX.nscope_by (by decide +kernel), bind1 fun _ _ _ _ _ _ _ _ => ⟨_, rfl, rfl⟩, rfl⟩
def W51 : LW := lwOf (lamIn (defBody s_law_web_calls) 5 1) ["c", "bad"] ["c"] ["bad"] [0] [0]
theorem ok_W51 : LWok W51 := ⟨NdefX.nscope_by (by decide +kernel), bind1 fun _ _ _ _ _ _ _ _ => ⟨_, rfl, rfl⟩, rfl⟩
def W60 : LW := lwOf (lamIn (defBody s_law_web_calls) 6 0) ["bad"] [] ["bad"] [0] []
theorem ok_W60 : LWok W60 := ⟨NdefX.nscope_by (by decide +kernel), bind0 fun _ _ _ _ _ _ => rfl, rfl⟩
def W61 : LW := lwOf (lamIn (defBody s_law_web_calls) 6 1) ["a", "bad"] ["a"] ["bad"] [0] [0]
theorem ok_W61 : LWok W61 := ⟨NdefX.nscope_by (by decide +kernel), bind1 fun _ _ _ _ _ _ _ _ => ⟨_, rfl, rfl⟩, rfl⟩
def W62 : LW := lwOf (lamIn (defBody s_law_web_calls) 6 2) ["b", "bad"] ["b"] ["bad"] [0] [0]
theorem ok_W62 : LWok W62 := ⟨NdefX.nscope_by (by decide +kernel), bind1 fun _ _ _ _ _ _ _ _ => ⟨_, rfl, rfl⟩, rfl⟩
def LsW : List LW := [W00, W01, W10, W11, W20, W30, W31, W40, W41, W50, W51, W60, W61, W62]
def N00 : LW := lwOf (lamIn (defBody s_law_net_calls) 0 0) ["bad"] [] ["bad"] [0] []
theorem ok_N00 : LWok N00 := ⟨NdefX.nscope_by (by decide +kernel), bind0 fun _ _ _ _ _ _ => rfl, rfl⟩
def N01 : LW := lwOf (lamIn (defBody s_law_net_calls) 0 1) ["a", "good", "bad"] ["a"] ["good", "bad"] [1, 0] [0]
theorem ok_N01 : LWok N01 := ⟨NdefX.nscope_by (by decide +kernel), bind1 fun _ _ _ _ _ _ _ _ => ⟨_, rfl, rfl⟩, rfl⟩
def N02 : LW := lwOf (lamIn (defBody s_law_net_calls) 0 2) ["b", "bad"] ["b"] ["bad"] [0] [0]
theorem ok_N02 : LWok N02 := ⟨NdefX.nscope_by (by decide +kernel), bind1 fun _ _ _ _ _ _ _ _ => ⟨_, rfl, rfl⟩, rfl⟩
def N10 : LW := lwOf (lamIn (defBody s_law_net_calls) 1 0) ["good", "bad"] [] ["good", "bad"] [1, 0] []
theorem ok_N10 : LWok N10 := ⟨NdefX.nscope_by (by decide +kernel), bind0 fun _ _ _ _ _ _ => rfl, rfl⟩
def N20 : LW := lwOf (lamIn (defBody s_law_net_calls) 2 0) ["a", "bad"] ["a"] ["bad"] [0] [0]
theorem ok_N20 : LWok N20 := ⟨NdefX.nscope_by (by decide +kernel), bind1 fun _ _ _ _ _ _ _ _ => ⟨_, rfl, rfl⟩, rfl⟩
def N21 : LW := lwOf (lamIn (defBody s_law_net_calls) 2 1) ["b", "bad"] ["b"] ["bad"] [0] [0]
theorem ok_N21 : LWok N21 := ⟨NdefX.nscope_by (by decide +kernel), bind1 fun _ _ _ _ _ _ _ _ => ⟨_, rfl, rfl⟩, rfl⟩
def N30 : LW := lwOf (lamIn (defBody s_law_net_calls) 3 0) ["good", "bad"] [] ["good", "bad"] [1, 0] []
theorem ok_N30 : LWok N30 := ⟨NdefX.nscope_by (by decide +kernel), bind0 fun _ _ _ _ _ _ => rfl, rfl⟩
def N40 : LW := lwOf (lamIn (defBody s_law_net_calls) 4 0) ["a", "bad"] ["a"] ["bad"] [0] [0]
theorem ok_N40 : LWok N40 := ⟨NdefX.nscope_by (by decide +kernel), bind1 fun _ _ _ _ _ _ _ _ => ⟨_, rfl, rfl⟩, rfl⟩
def N41 : LW := lwOf (lamIn (defBody s_law_net_calls) 4 1) ["b", "bad"] ["b"] ["bad"] [0] [0]
theorem ok_N41 : LWok N41 := ⟨NdefX.nscope_by (by decide +kernel), bind1 fun _ _ _ _ _ _ _ _ => ⟨_, rfl, rfl⟩, rfl⟩
def N50 : LW := lwOf (lamIn (defBody s_law_net_calls) 5 0) ["bad"] [] ["bad"] [0] []
theorem ok_N50 : LWok N50 := ⟨NdefX.nscope_by (by decide +kernel), bind0 fun _ _ _ _ _ _ => rfl, rfl⟩
def N51 : LW := lwOf (lamIn (defBody s_law_net_calls) 5 1) ["a", "bad"] ["a"] ["bad"] [0] [0]
theorem ok_N51 : LWok N51 := ⟨NdefX.nscope_by (by decide +kernel), bind1 fun _ _ _ _ _ _ _ _ => ⟨_, rfl, rfl⟩, rfl⟩
def LsN : List LW := [N00, N01, N02, N10, N20, N21, N30, N40, N41, N50, N51]
section
variable {P : Program} {w : World} {K : PySem.W.Frag} {mg : Str → Option Value} {base : Heap} {B : PyData → Value → Option (List (Str × PyData)) → Prop} {cU : Value} {c : Value} {fl : Option (List (Str × PyData))} {bad good : PyData} {k : Nat}
theorem ra_W00 (g : FnX P w K mg base 5 "ways" ["web"] (spT (pre1 B) 1)) (hk : 8 ≤ k) (hp : (pre1 B : PreT) [bad] c fl) : Rai P w K mg base k W00 [bad] c fl := fun q cl E H tell =>
  ep_raiseT at_lam tk_lam (g.up (by omega)) (el1 (ev_var (d := bad) (fun _ => pv 0) rfl)) hp fun σ H' s r => tell.mono s
theorem ra_W01 (g : FnX P w K mg base 5 "times" ["web", "factor"] (spT (preF B) 2)) (hk : 8 ≤ k) (hp : (preF B : PreT) [bad, .none] c fl) : Rai P w K mg base k W01 [bad] c fl := fun q cl E H tell =>
  ep_raiseT at_lam tk_lam (g.up (by omega)) (el2 (ev_var (d := bad) (fun _ => pv 1) rfl) ev_non) hp fun σ H' s r => tell.mono s
theorem ra_W10 (g : FnX P w K mg base 5 "multiples" ["web"] (spT (pre1 B) 1)) (hk : 8 ≤ k) (hp : (pre1 B : PreT) [bad] c fl) : Rai P w K mg base k W10 [bad] c fl := fun q cl E H tell =>
  ep_raiseT at_lam tk_lam (g.up (by omega)) (el1 (ev_var (d := bad) (fun _ => pv 1) rfl)) hp fun σ H' s r => tell.mono s
theorem ra_W11 (g : FnX P w K mg base 6 "least_multiple" ["web"] (spT (pre1 B) 1)) (hk : 8 ≤ k) (hp : (pre1 B : PreT) [bad] c fl) : Rai P w K mg base k W11 [bad] c fl := fun q cl E H tell =>
  ep_raiseT at_lam tk_lam (g.up (by omega)) (el1 (ev_var (d := bad) (fun _ => pv 1) rfl)) hp fun σ H' s r => tell.mono s
theorem ra_W20 (g : FnX P w K mg base 5 "are_multiples" ["one", "other"] (spT (preW2 cU B) 2)) (hk : 8 ≤ k) (hp : (preW2 cU B : PreT) [bad, .none] c fl) : Rai P w K mg base k W20 [bad] c fl := fun q cl E H tell =>
  ep_raiseT at_lam tk_lam (g.up (by omega)) (el2 (ev_var (d := bad) (fun _ => pv 0) rfl) ev_non) hp fun σ H' s r => tell.mono s
theorem ra_W30 (g : FnX P w K mg base 5 "are_multiples" ["one", "other"] (spT (preW2 cU B) 2)) (hk : 8 ≤ k) (hp : (preW2 cU B : PreT) [good, bad] c fl) : Rai P w K mg base k W30 [good, bad] c fl := fun q cl E H tell =>
  ep_raiseT at_lam tk_lam (g.up (by omega)) (el2 (ev_var (d := good) (fun _ => pv 1) rfl) (ev_var (d := bad) (fun _ => pv 2) rfl)) hp fun σ H' s r => tell.mono s
theorem ra_W31 (g : FnX P w K mg base 5 "turned" ["web"] (spT (pre1 B) 1)) (hk : 8 ≤ k) (hp : (pre1 B : PreT) [bad] c fl) : Rai P w K mg base k W31 [bad] c fl := fun q cl E H tell =>
  ep_raiseT at_lam tk_lam (g.up (by omega)) (el1 (ev_var (d := bad) (fun _ => pv 1) rfl)) hp fun σ H' s r => tell.mono s
theorem ra_W40 (g : FnX P w K mg base 6 "is_two_way" ["web"] (spT (pre1 B) 1)) (hk : 8 ≤ k) (hp : (pre1 B : PreT) [bad] c fl) : Rai P w K mg base k W40 [bad] c fl := fun q cl E H tell =>
  ep_raiseT at_lam tk_lam (g.up (by omega)) (el1 (ev_var (d := bad) (fun _ => pv 0) rfl)) hp fun σ H' s r => tell.mono s
theorem ra_W41 (g : FnX P w K mg base 5 "net_of" ["web"] (spT (pre1 B) 1)) (hk : 8 ≤ k) (hp : (pre1 B : PreT) [bad] c fl) : Rai P w K mg base k W41 [bad] c fl := fun q cl E H tell =>
  ep_raiseT at_lam tk_lam (g.up (by omega)) (el1 (ev_var (d := bad) (fun _ => pv 1) rfl)) hp fun σ H' s r => tell.mono s
theorem ra_W50 (g : FnX P w K mg base 5 "keepers" ["web"] (spT (pre1 B) 1)) (hk : 8 ≤ k) (hp : (pre1 B : PreT) [bad] c fl) : Rai P w K mg base k W50 [bad] c fl := fun q cl E H tell =>
  ep_raiseT at_lam tk_lam (g.up (by omega)) (el1 (ev_var (d := bad) (fun _ => pv 1) rfl)) hp fun σ H' s r => tell.mono s
theorem ra_W51 (g : FnX P w K mg base 5 "count_plain" ["web"] (spT (pre1 B) 1)) (hk : 8 ≤ k) (hp : (pre1 B : PreT) [bad] c fl) : Rai P w K mg base k W51 [bad] c fl := fun q cl E H tell =>
  ep_raiseT at_lam tk_lam (g.up (by omega)) (el1 (ev_var (d := bad) (fun _ => pv 1) rfl)) hp fun σ H' s r => tell.mono s
theorem ra_W60 (g : FnX P w K mg base 7 "is_plain" ["web"] (spT (pre1 B) 1)) (hk : 8 ≤ k) (hp : (pre1 B : PreT) [bad] c fl) : Rai P w K mg base k W60 [bad] c fl := fun q cl E H tell =>
  ep_raiseT at_lam tk_lam (g.up (by omega)) (el1 (ev_var (d := bad) (fun _ => pv 0) rfl)) hp fun σ H' s r => tell.mono s
theorem ra_W61 (g : FnX P w K mg base 5 "symmetries" ["web"] (spT (pre1 B) 1)) (hk : 8 ≤ k) (hp : (pre1 B : PreT) [bad] c fl) : Rai P w K mg base k W61 [bad] c fl := fun q cl E H tell =>
  ep_raiseT at_lam tk_lam (g.up (by omega)) (el1 (ev_var (d := bad) (fun _ => pv 1) rfl)) hp fun σ H' s r => tell.mono s
theorem ra_W62 (g : FnX P w K mg base 5 "write_web" ["web"] (spT (pre1 B) 1)) (hk : 8 ≤ k) (hp : (pre1 B : PreT) [bad] c fl) : Rai P w K mg base k W62 [bad] c fl := fun q cl E H tell =>
  ep_raiseT at_lam tk_lam (g.up (by omega)) (el1 (ev_var (d := bad) (fun _ => pv 1) rfl)) hp fun σ H' s r => tell.mono s
theorem ra_N00 (g : FnX P w K mg base 7 "likeness" ["one", "other"] (spT (pre2 (preN2 cU B)) 2)) (hk : 8 ≤ k) (hp : (pre2 (preN2 cU B) : PreT) [bad, .none] c fl) : Rai P w K mg base k N00 [bad] c fl := fun q cl E H tell =>
  ep_raiseT at_lam tk_lam (g.up (by omega)) (el2 (ev_var (d := bad) (fun _ => pv 0) rfl) ev_non) hp fun σ H' s r => tell.mono s
theorem ra_N01 (g : FnX P w K mg base 7 "likeness" ["one", "other"] (spT (pre2 (preN2 cU B)) 2)) (hk : 8 ≤ k) (hp : (pre2 (preN2 cU B) : PreT) [good, bad] c fl) : Rai P w K mg base k N01 [good, bad] c fl := fun q cl E H tell =>
  ep_raiseT at_lam tk_lam (g.up (by omega)) (el2 (ev_var (d := good) (fun _ => pv 1) rfl) (ev_var (d := bad) (fun _ => pv 2) rfl)) hp fun σ H' s r => tell.mono s
theorem ra_N02 (g : FnX P w K mg base 8 "are_alike" ["one", "other"] (spT (pre2 (preN2 cU B)) 2)) (hk : 8 ≤ k) (hp : (pre2 (preN2 cU B) : PreT) [bad, .none] c fl) : Rai P w K mg base k N02 [bad] c fl := fun q cl E H tell =>
  ep_raiseT at_lam tk_lam (g.up (by omega)) (el2 (ev_var (d := bad) (fun _ => pv 1) rfl) ev_non) hp fun σ H' s r => tell.mono s
theorem ra_N10 (g : FnX P w K mg base 8 "are_alike" ["one", "other"] (spT (pre2 (preN2 cU B)) 2)) (hk : 8 ≤ k) (hp : (pre2 (preN2 cU B) : PreT) [good, bad] c fl) : Rai P w K mg base k N10 [good, bad] c fl := fun q cl E H tell =>
  ep_raiseT at_lam tk_lam (g.up (by omega)) (el2 (ev_var (d := good) (fun _ => pv 0) rfl) (ev_var (d := bad) (fun _ => pv 1) rfl)) hp fun σ H' s r => tell.mono s
theorem ra_N20 (g : FnX P w K mg base 7 "shows_likeness" ["one", "other", "value"] (spT (fun ds c fl => ∃ a b x, ds = [a, b, x] ∧ preN2 cU B a b c fl) 3)) (hk : 8 ≤ k) (hp : (fun ds c fl => ∃ a b x, ds = [a, b, x] ∧ preN2 cU B a b c fl : PreT) [bad, .none, .none] c fl) : Rai P w K mg base k N20 [bad] c fl := fun q cl E H tell =>
  ep_raiseT at_lam tk_lam (g.up (by omega)) (el3 (ev_var (d := bad) (fun _ => pv 1) rfl) ev_non ev_non) hp fun σ H' s r => tell.mono s
theorem ra_N21 (g : FnX P w K mg base 6 "is_even" ["net"] (spT (pre1 B) 1)) (hk : 8 ≤ k) (hp : (pre1 B : PreT) [bad] c fl) : Rai P w K mg base k N21 [bad] c fl := fun q cl E H tell =>
  ep_raiseT at_lam tk_lam (g.up (by omega)) (el1 (ev_var (d := bad) (fun _ => pv 1) rfl)) hp fun σ H' s r => tell.mono s
theorem ra_N30 (g : FnX P w K mg base 7 "shows_likeness" ["one", "other", "value"] (spT (fun ds c fl => ∃ a b x, ds = [a, b, x] ∧ preN2 cU B a b c fl) 3)) (hk : 8 ≤ k) (hp : (fun ds c fl => ∃ a b x, ds = [a, b, x] ∧ preN2 cU B a b c fl : PreT) [good, bad, .none] c fl) : Rai P w K mg base k N30 [good, bad] c fl := fun q cl E H tell =>
  ep_raiseT at_lam tk_lam (g.up (by omega)) (el3 (ev_var (d := good) (fun _ => pv 0) rfl) (ev_var (d := bad) (fun _ => pv 1) rfl) ev_non) hp fun σ H' s r => tell.mono s
theorem ra_N40 (g : FnX P w K mg base 6 "count_symmetries" ["net"] (spT (pre1 B) 1)) (hk : 8 ≤ k) (hp : (pre1 B : PreT) [bad] c fl) : Rai P w K mg base k N40 [bad] c fl := fun q cl E H tell =>
  ep_raiseT at_lam tk_lam (g.up (by omega)) (el1 (ev_var (d := bad) (fun _ => pv 1) rfl)) hp fun σ H' s r => tell.mono s
theorem ra_N41 (g : FnX P w K mg base 7 "ring" ["net"] (spT (pre1 B) 1)) (hk : 8 ≤ k) (hp : (pre1 B : PreT) [bad] c fl) : Rai P w K mg base k N41 [bad] c fl := fun q cl E H tell =>
  ep_raiseT at_lam tk_lam (g.up (by omega)) (el1 (ev_var (d := bad) (fun _ => pv 1) rfl)) hp fun σ H' s r => tell.mono s
theorem ra_N50 (g : FnX P w K mg base 8 "shows_ring" ["net", "value"] (spT (fun ds c fl => ∃ d, ds = [d, .none] ∧ B d c fl) 2)) (hk : 8 ≤ k) (hp : (fun ds c fl => ∃ d, ds = [d, .none] ∧ B d c fl : PreT) [bad, .none] c fl) : Rai P w K mg base k N50 [bad] c fl := fun q cl E H tell =>
  ep_raiseT at_lam tk_lam (g.up (by omega)) (el2 (ev_var (d := bad) (fun _ => pv 0) rfl) ev_non) hp fun σ H' s r => tell.mono s
theorem ra_N51 (g : FnX P w K mg base 6 "steps_along" ["net", "order"] (spT (preF B) 2)) (hk : 8 ≤ k) (hp : (preF B : PreT) [bad, .none] c fl) : Rai P w K mg base k N51 [bad] c fl := fun q cl E H tell =>
  ep_raiseT at_lam tk_lam (g.up (by omega)) (el2 (ev_var (d := bad) (fun _ => pv 1) rfl) ev_non) hp fun σ H' s r => tell.mono s
structure GWc (P : Program) (w : World) (K : PySem.W.Frag) (mg : Str → Option Value) (base : Heap) (cU : Value) (B : PyData → Value → Option (List (Str × PyData)) → Prop) : Prop where
  ways : FnX P w K mg base 5 "ways" ["web"] (spT (pre1 B) 1)
  times : FnX P w K mg base 5 "times" ["web", "factor"] (spT (preF B) 2)
  multiples : FnX P w K mg base 5 "multiples" ["web"] (spT (pre1 B) 1)
  least_multiple : FnX P w K mg base 6 "least_multiple" ["web"] (spT (pre1 B) 1)
  are_multiples : FnX P w K mg base 5 "are_multiples" ["one", "other"] (spT (preW2 cU B) 2)
  turned : FnX P w K mg base 5 "turned" ["web"] (spT (pre1 B) 1)
  is_two_way : FnX P w K mg base 6 "is_two_way" ["web"] (spT (pre1 B) 1)
  net_of : FnX P w K mg base 5 "net_of" ["web"] (spT (pre1 B) 1)
  keepers : FnX P w K mg base 5 "keepers" ["web"] (spT (pre1 B) 1)
  count_plain : FnX P w K mg base 5 "count_plain" ["web"] (spT (pre1 B) 1)
  is_plain : FnX P w K mg base 7 "is_plain" ["web"] (spT (pre1 B) 1)
  symmetries : FnX P w K mg base 5 "symmetries" ["web"] (spT (pre1 B) 1)
  write_web : FnX P w K mg base 5 "write_web" ["web"] (spT (pre1 B) 1)
structure GNc (P : Program) (w : World) (K : PySem.W.Frag) (mg : Str → Option Value) (base : Heap) (cU : Value) (B : PyData → Value → Option (List (Str × PyData)) → Prop) : Prop where
  likeness : FnX P w K mg base 7 "likeness" ["one", "other"] (spT (pre2 (preN2 cU B)) 2)
  are_alike : FnX P w K mg base 8 "are_alike" ["one", "other"] (spT (pre2 (preN2 cU B)) 2)
  shows_likeness : FnX P w K mg base 7 "shows_likeness" ["one", "other", "value"] (spT (fun ds c fl => ∃ a b x, ds = [a, b, x] ∧ preN2 cU B a b c fl) 3)
  is_even : FnX P w K mg base 6 "is_even" ["net"] (spT (pre1 B) 1)
  count_symmetries : FnX P w K mg base 6 "count_symmetries" ["net"] (spT (pre1 B) 1)
  ring : FnX P w K mg base 7 "ring" ["net"] (spT (pre1 B) 1)
  shows_ring : FnX P w K mg base 8 "shows_ring" ["net", "value"] (spT (fun ds c fl => ∃ d, ds = [d, .none] ∧ B d c fl) 2)
  steps_along : FnX P w K mg base 6 "steps_along" ["net", "order"] (spT (preF B) 2)
theorem all_W {h : Int} {st : List Int} (G : GWc P w K mg base cU B) (hk : 8 ≤ k) (hb : B bad c fl) (W : WebOk h st) : ∀ (i : Nat) (L : LW) (ds : List PyData), (LsW.map fun L => (L, L.js.map fun j => ([bad, (web h st)] : List PyData).getD j .none))[i]? = some (L, ds) → LWok L ∧ Rai P w K mg base k L ds c fl := fun i L ds e => by
  rcases i with _ | _ | _ | _ | _ | _ | _ | _ | _ | _ | _ | _ | _ | _ | i
  · cases e; exact ⟨ok_W00, ra_W00 G.ways hk ⟨_, rfl, hb⟩⟩
  · cases e; exact ⟨ok_W01, ra_W01 G.times hk ⟨_, _, rfl, hb⟩⟩
  · cases e; exact ⟨ok_W10, ra_W10 G.multiples hk ⟨_, rfl, hb⟩⟩
  · cases e; exact ⟨ok_W11, ra_W11 G.least_multiple hk ⟨_, rfl, hb⟩⟩
  · cases e; exact ⟨ok_W20, ra_W20 G.are_multiples hk ⟨_, _, rfl, .inl hb⟩⟩
  · cases e; exact ⟨ok_W30, ra_W30 G.are_multiples hk ⟨_, _, rfl, .inr ⟨_, _, rfl, W, .inl hb⟩⟩⟩
  · cases e; exact ⟨ok_W31, ra_W31 G.turned hk ⟨_, rfl, hb⟩⟩
  · cases e; exact ⟨ok_W40, ra_W40 G.is_two_way hk ⟨_, rfl, hb⟩⟩
  · cases e; exact ⟨ok_W41, ra_W41 G.net_of hk ⟨_, rfl, hb⟩⟩
  · cases e; exact ⟨ok_W50, ra_W50 G.keepers hk ⟨_, rfl, hb⟩⟩
  · cases e; exact ⟨ok_W51, ra_W51 G.count_plain hk ⟨_, rfl, hb⟩⟩
  · cases e; exact ⟨ok_W60, ra_W60 G.is_plain hk ⟨_, rfl, hb⟩⟩
  · cases e; exact ⟨ok_W61, ra_W61 G.symmetries hk ⟨_, rfl, hb⟩⟩
  · cases e; exact ⟨ok_W62, ra_W62 G.write_web hk ⟨_, rfl, hb⟩⟩
  · cases e
theorem all_N {n : Nat} {ws : Wy} (G : GNc P w K mg base cU B) (hk : 8 ≤ k) (hb : B bad c fl) (W : NetV n ws) : ∀ (i : Nat) (L : LW) (ds : List PyData), (LsN.map fun L => (L, L.js.map fun j => ([bad, (netN n ws)] : List PyData).getD j .none))[i]? = some (L, ds) → LWok L ∧ Rai P w K mg base k L ds c fl := fun i L ds e => by
  rcases i with _ | _ | _ | _ | _ | _ | _ | _ | _ | _ | _ | i
  · cases e; exact ⟨ok_N00, ra_N00 G.likeness hk ⟨_, _, rfl, .inl hb⟩⟩
  · cases e; exact ⟨ok_N01, ra_N01 G.likeness hk ⟨_, _, rfl, .inr ⟨_, _, rfl, W, .inl hb⟩⟩⟩
  · cases e; exact ⟨ok_N02, ra_N02 G.are_alike hk ⟨_, _, rfl, .inl hb⟩⟩
  · cases e; exact ⟨ok_N10, ra_N10 G.are_alike hk ⟨_, _, rfl, .inr ⟨_, _, rfl, W, .inl hb⟩⟩⟩
  · cases e; exact ⟨ok_N20, ra_N20 G.shows_likeness hk ⟨_, _, _, rfl, .inl hb⟩⟩
  · cases e; exact ⟨ok_N21, ra_N21 G.is_even hk ⟨_, rfl, hb⟩⟩
  · cases e; exact ⟨ok_N30, ra_N30 G.shows_likeness hk ⟨_, _, _, rfl, .inr ⟨_, _, rfl, W, .inl hb⟩⟩⟩
  · cases e; exact ⟨ok_N40, ra_N40 G.count_symmetries hk ⟨_, rfl, hb⟩⟩
  · cases e; exact ⟨ok_N41, ra_N41 G.ring hk ⟨_, rfl, hb⟩⟩
  · cases e; exact ⟨ok_N50, ra_N50 G.shows_ring hk ⟨_, rfl, hb⟩⟩
  · cases e; exact ⟨ok_N51, ra_N51 G.steps_along hk ⟨_, _, rfl, hb⟩⟩
  · cases e
end
end SK


set_option Elab.async false
set_option linter.all false
set_option maxRecDepth 100000
set_option maxHeartbeats 2000000
/-! Skd4: _law_web_calls, _law_net_calls keep their promises. -/
namespace SK
open PySem SW
open L2 hiding Same
open LamX (TabB)
def capAB (ps : List Str) (L : LW) : Bool := (L.scope.names.all fun z => !decide (z.2 = .free) || decide (z.1 ∈ ps)) && (L.fr.all fun z => decide ((z, NameKind.free) ∈ L.scope.names)) && decide (L.js.map (fun j => ps[j]?) = L.fr.map some)
theorem capA_of {ps : List Str} {sc : Scope} {L : LW} (h : capAB ps L = true) : LCapA ps sc L := by
  unfold capAB at h
  simp only [Bool.and_eq_true, List.all_eq_true, Bool.or_eq_true, Bool.not_eq_true', decide_eq_true_eq, decide_eq_false_iff_not] at h
  refine ⟨fun z hz e => ?_, h.1.2, h.2⟩
  rcases h.1.1 z hz with k | k
  · exact absurd e k
  · exact k
section
variable {P : Program} {w : World} {K : PySem.W.Frag} {mg : Str → Option Value} {base : Heap}
theorem emoF {X : Unit → Cx} {H0 : Hp} {ρ : Env1} {L : LW} {pos : Pos} {c t : Addr} {k : Nat} (hA : ∀ i, At (X i) P w K mg base k) (TB : TabB base mg c t) (hcode : ∀ i, (X i).env.code = .ref c) (hq : ∀ i, Nm.nm pos.line pos.col = (X i).env.qual ++ "<lambda>")
    (hd : (L.dn = [] ∧ ∀ i, defaultsOf L.params (X i).env = ([], [])) ∨ ∃ d j p, L.dn = [d] ∧ L.params.defaults = [.Constant (.int d) j p] ∧ L.params.kw_defaults = []) (free : ∀ i, ∀ z ∈ L.scope.names, z.2 = .free → (X i).env.scope.names.lookup z.1 = some .cell ∨ (X i).env.scope.names.lookup z.1 = some .free) (tab : TabF H0 t) : EMo X H0 ρ (.Lambda L.params L.body L.scope pos) L := fun σ H s r =>
  al_lam hA TB hcode hq hd free tab () σ H s r
abbrev nC : List Str := ["bad", "good", "works"]
theorem sc_law_web_calls : FnScope nC ["bad", "good"] (defScope s_law_web_calls) := ⟨rfl, rfl, rfl, by decide +kernel, rfl, by decide +kernel, by decide +kernel⟩
theorem cap_W : (LsW.all (capAB ["bad", "good"])) = true := by decide +kernel
theorem cel_W : ∀ y ∈ (["bad", "good"] : List Str), (defScope s_law_web_calls).names.lookup y = some .cell := by decide +kernel
theorem fn_law_web_calls {c t : Addr} (D : DfC K mg "_law_web_calls" s_law_web_calls ["bad", "good"] c) (TB : TabB base mg c t) : Fn P w K mg base 2 "_law_web_calls" ["bad", "good"] (spLams t LsW 2) := by
  refine D.fnL (N := nC) (Ls := LsW) (init := (defBody s_law_web_calls).take 6) sc_law_web_calls rfl (by decide) (fun j y e => by rcases j with _ | _ | j <;> first | exact e | cases e) cel_W (fun L hL => capA_of (List.all_eq_true.mp cap_W L hL)) fun f A outer s H1 H0 ds hA S ht hl => ?_
  obtain ⟨d1, d2, rfl⟩ := len2 hl rfl
  have fr : ∀ L ∈ LsW, ∀ i, ∀ z ∈ L.scope.names, z.2 = .free → (bdF P w K mg base nC "_law_web_calls" (defScope s_law_web_calls) f (.ref c) A outer s H1 i).env.scope.names.lookup z.1 = some .cell ∨ (bdF P w K mg base nC "_law_web_calls" (defScope s_law_web_calls) f (.ref c) A outer s H1 i).env.scope.names.lookup z.1 = some .free := fun L hL i z hz e =>
    .inl (cel_W _ ((capA_of (sc := defScope s_law_web_calls) (List.all_eq_true.mp cap_W L hL)).free z hz e))
  refine ws_setEM (Ls := [W00, W01]) (i := 2) (em_list (ema_cons (emoF (L := W00) hA TB (fun _ => rfl) (fun _ => rfl) (.inl ⟨rfl, fun _ => rfl⟩) (fr _ (by simp [LsW])) ht) (ema_cons (emoF (L := W01) hA TB (fun _ => rfl) (fun _ => rfl) (.inr ⟨_, _, _, rfl, rfl, rfl⟩) (fr _ (by simp [LsW])) ht) ema_nil)) (by decide)) S fun p0 xs0 K0 t0 hp0 kn0 => ?_
  have ht0 := t0.tab _ ht
  refine ws_setEM (Ls := [W00, W01, W10, W11]) (i := 2) (em_add (em_var (Ls := [W00, W01]) (fun _ => pv 2) rfl hp0 kn0) (Ms := [W10, W11]) (em_list (ema_cons (emoF (L := W10) hA TB (fun _ => rfl) (fun _ => rfl) (.inr ⟨_, _, _, rfl, rfl, rfl⟩) (fr _ (by simp [LsW])) ht0) (ema_cons (emoF (L := W11) hA TB (fun _ => rfl) (fun _ => rfl) (.inr ⟨_, _, _, rfl, rfl, rfl⟩) (fr _ (by simp [LsW])) ht0) ema_nil)) (by decide)) (by decide)) S fun p1 xs1 K1 t1 hp1 kn1 => ?_
  have ht1 := t1.tab _ ht0
  refine ws_setEM (Ls := [W00, W01, W10, W11, W20]) (i := 2) (em_add (em_var (Ls := [W00, W01, W10, W11]) (fun _ => pv 2) rfl hp1 kn1) (Ms := [W20]) (em_list (ema_cons (emoF (L := W20) hA TB (fun _ => rfl) (fun _ => rfl) (.inl ⟨rfl, fun _ => rfl⟩) (fr _ (by simp [LsW])) ht1) ema_nil) (by decide)) (by decide)) S fun p2 xs2 K2 t2 hp2 kn2 => ?_
  have ht2 := t2.tab _ ht1
  refine ws_setEM (Ls := [W00, W01, W10, W11, W20, W30, W31]) (i := 2) (em_add (em_var (Ls := [W00, W01, W10, W11, W20]) (fun _ => pv 2) rfl hp2 kn2) (Ms := [W30, W31]) (em_list (ema_cons (emoF (L := W30) hA TB (fun _ => rfl) (fun _ => rfl) (.inr ⟨_, _, _, rfl, rfl, rfl⟩) (fr _ (by simp [LsW])) ht2) (ema_cons (emoF (L := W31) hA TB (fun _ => rfl) (fun _ => rfl) (.inr ⟨_, _, _, rfl, rfl, rfl⟩) (fr _ (by simp [LsW])) ht2) ema_nil)) (by decide)) (by decide)) S fun p3 xs3 K3 t3 hp3 kn3 => ?_
  have ht3 := t3.tab _ ht2
  refine ws_setEM (Ls := [W00, W01, W10, W11, W20, W30, W31, W40, W41]) (i := 2) (em_add (em_var (Ls := [W00, W01, W10, W11, W20, W30, W31]) (fun _ => pv 2) rfl hp3 kn3) (Ms := [W40, W41]) (em_list (ema_cons (emoF (L := W40) hA TB (fun _ => rfl) (fun _ => rfl) (.inl ⟨rfl, fun _ => rfl⟩) (fr _ (by simp [LsW])) ht3) (ema_cons (emoF (L := W41) hA TB (fun _ => rfl) (fun _ => rfl) (.inr ⟨_, _, _, rfl, rfl, rfl⟩) (fr _ (by simp [LsW])) ht3) ema_nil)) (by decide)) (by decide)) S fun p4 xs4 K4 t4 hp4 kn4 => ?_
  have ht4 := t4.tab _ ht3
  refine ws_setEM (Ls := [W00, W01, W10, W11, W20, W30, W31, W40, W41, W50, W51]) (i := 2) (em_add (em_var (Ls := [W00, W01, W10, W11, W20, W30, W31, W40, W41]) (fun _ => pv 2) rfl hp4 kn4) (Ms := [W50, W51]) (em_list (ema_cons (emoF (L := W50) hA TB (fun _ => rfl) (fun _ => rfl) (.inr ⟨_, _, _, rfl, rfl, rfl⟩) (fr _ (by simp [LsW])) ht4) (ema_cons (emoF (L := W51) hA TB (fun _ => rfl) (fun _ => rfl) (.inr ⟨_, _, _, rfl, rfl, rfl⟩) (fr _ (by simp [LsW])) ht4) ema_nil)) (by decide)) (by decide)) S fun p5 xs5 K5 t5 hp5 kn5 => ?_
  have ht5 := t5.tab _ ht4
  refine ws_nil fun σ H sm r => ?_
  refine (em_add (em_var (Ls := [W00, W01, W10, W11, W20, W30, W31, W40, W41, W50, W51]) (fun _ => pv 2) rfl hp5 kn5) (Ms := [W60, W61, W62]) (em_list (ema_cons (emoF (L := W60) hA TB (fun _ => rfl) (fun _ => rfl) (.inl ⟨rfl, fun _ => rfl⟩) (fr _ (by simp [LsW])) ht5) (ema_cons (emoF (L := W61) hA TB (fun _ => rfl) (fun _ => rfl) (.inr ⟨_, _, _, rfl, rfl, rfl⟩) (fr _ (by simp [LsW])) ht5) (ema_cons (emoF (L := W62) hA TB (fun _ => rfl) (fun _ => rfl) (.inr ⟨_, _, _, rfl, rfl, rfl⟩) (fr _ (by simp [LsW])) ht5) ema_nil))) (by decide)) (by decide)) σ H sm r H _ (SW.Same.refl H) fun p xs H2 s2 hp kn => ⟨p, xs, rfl, ((((((t0.trans t1).trans t2).trans t3).trans t4).trans t5).trans sm).trans s2, hp, kn, fun j d hd => ?_⟩
  rcases j with _ | _ | j
  · cases hd
    obtain ⟨u, e1, e2⟩ := r.get (i := 0) rfl
    exact ⟨u, e1, e2.mono s2⟩
  · cases hd
    obtain ⟨u, e1, e2⟩ := r.get (i := 1) rfl
    exact ⟨u, e1, e2.mono s2⟩
  · cases hd
theorem sc_law_net_calls : FnScope nC ["bad", "good"] (defScope s_law_net_calls) := ⟨rfl, rfl, rfl, by decide +kernel, rfl, by decide +kernel, by decide +kernel⟩
theorem cap_N : (LsN.all (capAB ["bad", "good"])) = true := by decide +kernel
theorem cel_N : ∀ y ∈ (["bad", "good"] : List Str), (defScope s_law_net_calls).names.lookup y = some .cell := by decide +kernel
theorem fn_law_net_calls {c t : Addr} (D : DfC K mg "_law_net_calls" s_law_net_calls ["bad", "good"] c) (TB : TabB base mg c t) : Fn P w K mg base 2 "_law_net_calls" ["bad", "good"] (spLams t LsN 2) := by
  refine D.fnL (N := nC) (Ls := LsN) (init := (defBody s_law_net_calls).take 5) sc_law_net_calls rfl (by decide) (fun j y e => by rcases j with _ | _ | j <;> first | exact e | cases e) cel_N (fun L hL => capA_of (List.all_eq_true.mp cap_N L hL)) fun f A outer s H1 H0 ds hA S ht hl => ?_
  obtain ⟨d1, d2, rfl⟩ := len2 hl rfl
  have fr : ∀ L ∈ LsN, ∀ i, ∀ z ∈ L.scope.names, z.2 = .free → (bdF P w K mg base nC "_law_net_calls" (defScope s_law_net_calls) f (.ref c) A outer s H1 i).env.scope.names.lookup z.1 = some .cell ∨ (bdF P w K mg base nC "_law_net_calls" (defScope s_law_net_calls) f (.ref c) A outer s H1 i).env.scope.names.lookup z.1 = some .free := fun L hL i z hz e =>
    .inl (cel_N _ ((capA_of (sc := defScope s_law_net_calls) (List.all_eq_true.mp cap_N L hL)).free z hz e))
  refine ws_setEM (Ls := [N00, N01, N02]) (i := 2) (em_list (ema_cons (emoF (L := N00) hA TB (fun _ => rfl) (fun _ => rfl) (.inl ⟨rfl, fun _ => rfl⟩) (fr _ (by simp [LsN])) ht) (ema_cons (emoF (L := N01) hA TB (fun _ => rfl) (fun _ => rfl) (.inr ⟨_, _, _, rfl, rfl, rfl⟩) (fr _ (by simp [LsN])) ht) (ema_cons (emoF (L := N02) hA TB (fun _ => rfl) (fun _ => rfl) (.inr ⟨_, _, _, rfl, rfl, rfl⟩) (fr _ (by simp [LsN])) ht) ema_nil))) (by decide)) S fun p0 xs0 K0 t0 hp0 kn0 => ?_
  have ht0 := t0.tab _ ht
  refine ws_setEM (Ls := [N00, N01, N02, N10]) (i := 2) (em_add (em_var (Ls := [N00, N01, N02]) (fun _ => pv 2) rfl hp0 kn0) (Ms := [N10]) (em_list (ema_cons (emoF (L := N10) hA TB (fun _ => rfl) (fun _ => rfl) (.inl ⟨rfl, fun _ => rfl⟩) (fr _ (by simp [LsN])) ht0) ema_nil) (by decide)) (by decide)) S fun p1 xs1 K1 t1 hp1 kn1 => ?_
  have ht1 := t1.tab _ ht0
  refine ws_setEM (Ls := [N00, N01, N02, N10, N20, N21]) (i := 2) (em_add (em_var (Ls := [N00, N01, N02, N10]) (fun _ => pv 2) rfl hp1 kn1) (Ms := [N20, N21]) (em_list (ema_cons (emoF (L := N20) hA TB (fun _ => rfl) (fun _ => rfl) (.inr ⟨_, _, _, rfl, rfl, rfl⟩) (fr _ (by simp [LsN])) ht1) (ema_cons (emoF (L := N21) hA TB (fun _ => rfl) (fun _ => rfl) (.inr ⟨_, _, _, rfl, rfl, rfl⟩) (fr _ (by simp [LsN])) ht1) ema_nil)) (by decide)) (by decide)) S fun p2 xs2 K2 t2 hp2 kn2 => ?_
  have ht2 := t2.tab _ ht1
  refine ws_setEM (Ls := [N00, N01, N02, N10, N20, N21, N30]) (i := 2) (em_add (em_var (Ls := [N00, N01, N02, N10, N20, N21]) (fun _ => pv 2) rfl hp2 kn2) (Ms := [N30]) (em_list (ema_cons (emoF (L := N30) hA TB (fun _ => rfl) (fun _ => rfl) (.inl ⟨rfl, fun _ => rfl⟩) (fr _ (by simp [LsN])) ht2) ema_nil) (by decide)) (by decide)) S fun p3 xs3 K3 t3 hp3 kn3 => ?_
  have ht3 := t3.tab _ ht2
  refine ws_setEM (Ls := [N00, N01, N02, N10, N20, N21, N30, N40, N41]) (i := 2) (em_add (em_var (Ls := [N00, N01, N02, N10, N20, N21, N30]) (fun _ => pv 2) rfl hp3 kn3) (Ms := [N40, N41]) (em_list (ema_cons (emoF (L := N40) hA TB (fun _ => rfl) (fun _ => rfl) (.inr ⟨_, _, _, rfl, rfl, rfl⟩) (fr _ (by simp [LsN])) ht3) (ema_cons (emoF (L := N41) hA TB (fun _ => rfl) (fun _ => rfl) (.inr ⟨_, _, _, rfl, rfl, rfl⟩) (fr _ (by simp [LsN])) ht3) ema_nil)) (by decide)) (by decide)) S fun p4 xs4 K4 t4 hp4 kn4 => ?_
  have ht4 := t4.tab _ ht3
  refine ws_nil fun σ H sm r => ?_
  refine (em_add (em_var (Ls := [N00, N01, N02, N10, N20, N21, N30, N40, N41]) (fun _ => pv 2) rfl hp4 kn4) (Ms := [N50, N51]) (em_list (ema_cons (emoF (L := N50) hA TB (fun _ => rfl) (fun _ => rfl) (.inl ⟨rfl, fun _ => rfl⟩) (fr _ (by simp [LsN])) ht4) (ema_cons (emoF (L := N51) hA TB (fun _ => rfl) (fun _ => rfl) (.inr ⟨_, _, _, rfl, rfl, rfl⟩) (fr _ (by simp [LsN])) ht4) ema_nil)) (by decide)) (by decide)) σ H sm r H _ (SW.Same.refl H) fun p xs H2 s2 hp kn => ⟨p, xs, rfl, (((((t0.trans t1).trans t2).trans t3).trans t4).trans sm).trans s2, hp, kn, fun j d hd => ?_⟩
  rcases j with _ | _ | j
  · cases hd
    obtain ⟨u, e1, e2⟩ := r.get (i := 0) rfl
    exact ⟨u, e1, e2.mono s2⟩
  · cases hd
    obtain ⟨u, e1, e2⟩ := r.get (i := 1) rfl
    exact ⟨u, e1, e2.mono s2⟩
  · cases hd
end
end SK


set_option Elab.async false
set_option linter.all false
set_option maxRecDepth 100000
set_option maxHeartbeats 2000000
/-! SwLcS: name = [elt for y in e], the name a plain local, the block told of the state in which it begins; e a list of lambdas of the running frame. -/
namespace SW
open PySem PySem.Spec PyProof.Rows
open L2 hiding Same
open NdefX (NF NScope CellsAt startF envF ncx inv_startN Caps cells_of slotAt)
variable [Nm]
section
variable {X : Cx} {elt tg iter : Expr} {ifs : List Expr} {scope : Scope} {own : List (Str × Nat)} {wi : TI} {g : TG} {tt : TT} {te : TE} {Pr : Shared → Hp → List Addr → Prop} {pos pos' : Pos}
theorem lc_coreP {pins : List (Addr × Obj)} {s : Shared} {σ : L2.St} {H : Hp} {Q : VK} {use : Option (Value → Sem Unit)} {Qf : Value → Shared → Prop} (hc : X.calm = true) (hN : X.N.Nodup) (I : Inv X pins σ H s) (hi : PI X tg iter wi) (ok : BlkOk X.N X.env.scope scope own)
    (hPr : ∀ (s : Shared) (H : Hp) (fp : List Addr), Inv X pins σ H s → (∀ b ∈ fp, FpOk X pins H b) → Pr s H fp)
    (hg : ∀ i, PG (blkP X scope Pr i) tg g) (ht : ∀ i, PTs (blkP X scope Pr i) ifs tt) (he : ∀ i, PE (blkP X scope Pr i) elt te) (hs : ∀ x, foldedSetIterable iter X.env x = pure x) (h : tLc wi g tt te (own.map (·.2)) σ H Q)
    (hRR : ∀ D C s' m H', Inv X pins σ H' s' → Q (.ref D) H' → s'.heap.Ns C m → FpOk X pins H' C → compPost (model X.prog X.w) X.A X.xe use Qf (.ref D) C (.ok .next) s') :
    wpAny (model X.prog X.w) X.A (comprehension (.ListComp elt [⟨tg, iter, ifs, 0⟩] scope pos) scope X.env pos' (newList []) false (eval iter X.env) use) Qf X.xe s := by
  have clos : closureFor scope X.env = pure (cloFrom X.env.cells scope.names []) := closure_ok fun y hy e => (ok.free y hy e).elim (fun k => I.ok.has _ (.inl k)) fun k => I.ok.has _ (.inr k)
  refine wpAny_comprehension_free (use := use) rfl hs clos ok.kind (fun y hy e => by rw [ok.uniq y hy, e]) (thn (hi.run pins s σ H _ I h) fun _ s1 hx => thn hx fun _ s2 hy => ?_)
  obtain ⟨it, fp, tn, J, H2, rfl, I2, T, e2, f2, q⟩ := hy
  refine wpAny_newObj_type (newEnv_comp ?_) (by show 0 ≤ sizeLine; decide)
  have freeD : H2 s2.heap.objs.size = none := I2.hok.fresh (Nat.le_refl _)
  obtain ⟨W, ⟨m0, w0⟩, turn⟩ := q s2.heap.objs.size freeD
  have lt : ∀ b ∈ fp, b < s2.heap.objs.size := fun b hb => by
    obtain ⟨o, e, _⟩ := T.obj _ _ e2 b hb
    exact Heap.lt_size e
  have I3 : Inv X pins σ (upd H2 s2.heap.objs.size (.lst [])) { s2 with heap := s2.heap.push { cls := .type "list", data := .seq ([] : List Value).toArray } } :=
    I2.laid (t' := s2.toks) (fun b o e => Heap.get?_push_of_some _ e) (Nat.le_refl _) ⟨Nat.zero_le _, [], 0, .nil, Heap.get?_push_size _ rfl⟩
  generalize hD : s2.heap.objs.size = D at freeD w0 turn lt I3 ⊢
  generalize hs3 : ({ s2 with heap := s2.heap.push { cls := .type "list", data := .seq ([] : List Value).toArray } } : Shared) = s3 at I3 ⊢
  have hh3 : s3.heap = s2.heap.push { cls := .type "list", data := .seq ([] : List Value).toArray } := by rw [← hs3]
  have f3 : ∀ b ∈ fp, FpOk X pins (upd H2 D (.lst [])) b ∧ b < s3.heap.objs.size := fun b hb =>
    ⟨⟨by rw [upd_ne (Nat.ne_of_lt (lt b hb))]; exact (f2 b hb).1, (f2 b hb).2⟩, by rw [hh3, Heap.size_push, hD]; exact Nat.lt_succ_of_lt (lt b hb)⟩
  have e3 : tn 0 s3.heap := T.keep _ _ _ e2 fun b _ o e => by rw [hh3]; exact Heap.get?_push_of_some _ e
  generalize upd H2 D (.lst []) = H3 at I3 w0 f3
  have I4 := block_start I3 ok hN f3
  have pr : Pr s3 H3 fp := hPr s3 H3 fp I3 fun b hb => (f3 b hb).1
  let t0 : BIx Pr := ⟨(s3, H3, s3.heap.objs.size, cellsFrom (s3.heap.objs.size + 1) scope.names (cloFrom X.env.cells scope.names []), fp), pr⟩
  have I5 : Inv (blkP X scope Pr t0) [] (wipe σ (own.map (·.2))) H3 { s3 with heap := pushCells (s3.heap.push { cls := .type "dict", data := .dict #[] }) scope.names } := I4
  have e5 : tn 0 (pushCells (s3.heap.push { cls := .type "dict", data := .dict #[] }) scope.names) := T.keep _ _ _ e3 fun b _ o e => pushCells_keeps _ _ _ _ (Heap.get?_push_of_some _ e)
  have loop := loopP (R := compPost (model X.prog X.w) X.A X.xe use Qf (.ref D) s3.heap.objs.size) (pos := pos) (elt := elt) (iter := iter) (ifs := ifs) (own := own) (σ := σ) (Qd := fun H' => Q (.ref D) H') (D := D) hc T (hg t0) (ht t0) (he t0) turn (fun H' s' I' q' => ?_) I5 e5 (fun b hb => (f3 b hb).1.1) w0
  · exact codeAny_compStart_list loop (T.self X.A 0 _ _ _ e5 loop)
  · have back : Inv X pins σ H' s' := I3.call' (ch := fp) I'.os I'.base I'.hok I'.bare fun b hb => let z := (f3 b hb).1.2; ⟨z.2.2.1, z.1, z.2.2.2.1, z.2.2.2.2⟩
    have noC : H' s3.heap.objs.size = none := I'.free
    obtain ⟨m, hn, _⟩ := I'.loc
    exact hRR D _ s' m H' back q' hn (I3.fpOk (Nat.le_refl _) noC)
theorem ps_setLcP {Good : L2.St → Prop} {i : Nat} {y : Str} {py spos : Pos} (hc : X.calm = true) (hN : X.N.Nodup) (hy : X.N[i]? = some y) (hyl : X.env.scope.names.lookup y = some .local) (hsw : swapsWith (.ListComp elt [⟨tg, iter, ifs, 0⟩] scope pos) (some (.Name y py)) spos.line X.env = pure true) (hi : PI X tg iter wi) (ok : BlkOk X.N X.env.scope scope own)
    (hPr : ∀ (pins : List (Addr × Obj)) (σ : L2.St) (H : Hp) (s : Shared) (fp : List Addr), Good σ → Inv X pins σ H s → (∀ b ∈ fp, FpOk X pins H b) → Pr s H fp)
    (hg : ∀ i, PG (blkP X scope Pr i) tg g) (ht : ∀ i, PTs (blkP X scope Pr i) ifs tt) (he : ∀ i, PE (blkP X scope Pr i) elt te) (hs : ∀ x, foldedSetIterable iter X.env x = pure x := by intro _; rfl) :
    PS X (.Assign [.Name y py] (.ListComp elt [⟨tg, iter, ifs, 0⟩] scope pos) spos) (fun D σ H => Good σ ∧ tAsg (tLc wi g tt te (own.map (·.2))) (gName i) D σ H) := by
  refine ⟨fun pins s σ H D I hgt => ?_⟩
  obtain ⟨gd, h⟩ := hgt
  rw [exec_Assign_Name_used _ _ _ _ hsw]
  refine wpAny_bind (wpAny_standAt (wpAny_bind ?_))
  show wpAny _ X.A (do let _ ← comprehension (.ListComp elt [⟨tg, iter, ifs, 0⟩] scope pos) scope X.env (firstIterPos [⟨tg, iter, ifs, 0⟩] pos) (newList []) false (eval iter X.env) (some (assign (.Name y py) X.env))) _ _ s
  have h2 : tLc wi g tt te (own.map (·.2)) σ H (fun x H1 => gName i x σ H1 D.nx) := h
  refine wpAny_bind (thn (lc_coreP (Pr := Pr) (Qf := fun _ s' => SP X pins D .next s') hc hN I hi ok (fun s H fp J hf => hPr pins σ H s fp gd J hf) hg ht he hs h2 fun L C s' m H' I' q hn f => ?_) fun _ s' hq => wpAny_pure (wpAny_pure hq))
  show wpAny _ _ (assign (.Name y py) X.env (.ref L)) _ _ _
  refine wpAny_assign_Name (store_ok2 (v := V.ref L) I' hN hy (.inl hyl) rfl (fun s2 I2 ⟨a, sb, ha⟩ => ?_) (.inr hyl))
  obtain ⟨f0, f1, f2, f3, f4, f5⟩ := f
  have haC : C ≠ a := ha.elim (fun z => by rw [z]; exact f1) fun z e => f4 y a z e.symm
  exact ⟨m, hn.sameBut sb haC, fun h3 sb3 => ⟨_, H', I2.turned (t' := s2.toks) (fun b o hb e => (sb3.2 b hb).trans e) f0 f1 f3 f4 f5, q⟩⟩
end
section
variable {P : Program} {w : World} {K : PySem.W.Frag} {mg : Str → Option Value} {base : Heap} {k : Nat}
variable {X : Unit → Cx} {H0 : Hp} {ρ : Env1} {e : Expr} {Ls : List LW} {pos : Pos} {sts : List Stmt} {D : Ends}
/-- name = [elt for y in e], e a list of lambdas -/
theorem ws_setLcW {elt : Expr} {scope : Scope} {y nm : Str} {i0 i1 : Nat} {tp py spos : Pos} {ds : List PyData} (Pr : L2.St → Shared → Hp → List Addr → Prop) (hA : ∀ i, At (X i) P w K mg base k) {N : List Str} {sc : Scope} (S : Sc X N sc) (src : EM X H0 ρ e Ls) (hl : Ls.length = ds.length)
    (hPr : ∀ (pins : List (Addr × Obj)) (σ : L2.St) (H : Hp) (s : Shared) (fp : List Addr), Inv (X ()) pins σ H s → (∀ b ∈ fp, FpOk (X ()) pins H b) → Pr σ s H fp)
    (step : ∀ σ H2, Same H0 H2 → RpS H2 σ ρ → ∀ (i : Nat) (L : LW) (d : PyData) (f : Addr), Ls[i]? = some L → ds[i]? = some d → LamL H2 f L ((X ()).env.qual ++ "<lambda>") (cloFrom (X ()).env.cells L.scope.names []) →
      EV (blkP (X ()) scope (Pr σ)) H2 ((wipeR ρ [i0]).set i0 (some (.raw (.ref f)))) elt d)
    (q : WS X H0 (ρ.set i1 (some (.dat (.list ds)))) sts D)
    (ok : blkC N sc scope [(y, i0)] = true := by decide +kernel) (sw : swB sc scope nm = true := by decide +kernel) (hn : N[i1]? = some nm := by rfl) (hln : (py.line == spos.line || py.line == pos.line) = true := by rfl) (hlp : (py.line == pos.line) = true := by rfl)
    (hi : ∀ i', (X i').N[i0]? = some y := by intro _; rfl) (hx : ∀ Pr (i' : BIx Pr), Loc (blkP (X ()) scope Pr i').env.scope y := by intro _ _; first | exact Or.inl rfl | exact Or.inr rfl)
    (hf : ∀ Pr (i' : BIx Pr), (blkP (X ()) scope Pr i').fn y = true ∨ (blkP (X ()) scope Pr i').env.scope.names.lookup y = some .local := by intro _ _; first | exact Or.inr rfl | exact Or.inl rfl) (hs : ∀ i x, foldedSetIterable e (X i).env x = pure x := by intro _ _; rfl) :
    WS X H0 ρ (.Assign [.Name nm py] (.ListComp elt [⟨.Name y tp, e, [], 0⟩] scope pos) spos :: sts) D := .mk fun σ H s r => by
  have sw' := sw
  unfold swB at sw'
  simp only [Bool.and_eq_true, decide_eq_true_eq, Bool.not_eq_true'] at sw'
  refine wb_cons (t := fun D σ' H => σ' = σ ∧ tAsg (tLc (uI X (.Name y tp) e) (gName i0) (uTs (blkP (X ()) scope (Pr σ)) []) (uE (blkP (X ()) scope (Pr σ)) elt) [i0]) (gName i1) D σ' H) (fun i => ps_setLcP (X := X i) (own := [(y, i0)]) (Good := fun σ' => σ' = σ) (Pr := Pr σ) (wi := uI X (.Name y tp) e) (g := gName i0) (tt := uTs (blkP (X ()) scope (Pr σ)) []) (te := uE (blkP (X ()) scope (Pr σ)) elt) (hA i).calm (S.ndx i) (by rw [S.hN i]; exact hn) (by rw [S.hs i]; exact sw'.1.2) (sw_by (S.hs i) sw hlp) (pi_u i) (S.ok ok i) (fun pins σ' H s fp e J hf => by subst e; exact hPr pins σ' H s fp J hf)
    (fun i' => pg_name (S.ndx i) (hi i) (hx _ i') (hf _ i')) (fun i' => pts_u (X := blkP (X ()) scope (Pr σ)) i') (fun i' => pe_u (X := blkP (X ()) scope (Pr σ)) i') (hs i)) ⟨rfl, ?_⟩
  refine lc_semR (Kn := KnL ((X ()).env.qual ++ "<lambda>") (X ()).env.cells Ls) (fun H1 R s1 q => ui_len ⟨iList K (uE X e), fun i => (hA i).K ▸ pi_list (pe_u i), src σ H s r H1 _ s1 fun p xs H2 s2 hp kn => ⟨_, rfl, ⟨_, SqL.of hp⟩, fun lk => q _ xs H2 s2 (yldR_list hp) kn (lk _ _ (.inl hp))⟩⟩)
    (fun xs i acc => acc = ds.take i) (fun xs => rfl) (fun xs H2 i v acc s2 kn hv pv H' s' => ⟨fun b => b = true, dts_nil, (fun e => by cases e), fun _ => ?_⟩) H _ (Same.refl H) fun v H2 d s2 rv ⟨xs, H3, acc, s3, kn, e1, e2⟩ => ?_
  · have hi' : i < Ls.length := by
      rw [← kn.1]
      exact (List.getElem?_eq_some_iff.mp hv).1
    obtain ⟨L, hL⟩ : ∃ L, Ls[i]? = some L := ⟨_, List.getElem?_eq_getElem hi'⟩
    obtain ⟨d, hd⟩ : ∃ d, ds[i]? = some d := ⟨_, List.getElem?_eq_getElem (by rw [← hl]; exact hi')⟩
    obtain ⟨f, rfl, lam⟩ := kn.2 i v L hv hL
    refine ⟨fun x => x = d, (step σ H2 (s.trans s2) (r.mono s2) i L d f hL hd lam).run _ H' s' (((r.mono (s2.trans s')).wipe [i0]).setRaw), fun y' e' => ?_⟩
    rw [e', pv, List.take_succ, hd]
    rfl
  · have e3 : d = .list ds := by rw [e1, e2, kn.1, hl, List.take_length]
    subst e3
    exact q.run _ H2 (s.trans s2) ((r.mono s2).set rv)
end
end SW

set_option Elab.async false
set_option linter.all false
set_option maxRecDepth 100000
set_option maxHeartbeats 1000000
/-! Sk7a: check_prime, symmetries: their answers, and where they raise. -/
namespace SK
open PySem SW
open L2 hiding Same
local macro_rules | `(tactic| walk_at "v") => `(tactic| first | exact ev_var (fun _ => pv 0) rfl | exact ev_var (fun _ => pv 1) rfl | exact ev_var (fun _ => pv 2) rfl | exact ev_var (fun _ => pv 3) rfl)
section
variable {P : Program} {w : World} {K : PySem.W.Frag} {mg : Str → Option Value} {base : Heap}
def compB (h : Int) : Bool := (irng 2 (h - 2).toNat).any fun d => decide (h % d = 0)
theorem sc_check_prime : FnScope ["number", "divisor"] ["number"] (defScope s_check_prime) := ⟨rfl, rfl, rfl, by decide +kernel, rfl, by decide +kernel, by decide +kernel⟩
def f_check_prime : List PyData → Option PyData
  | [.int h] => if decide (2 ≤ h) && decide (h ≤ 13) && !compB h then some .none else none
  | _ => none
theorem e_comp (h : Int) : ((rgD 2 (h - 2).toNat).map fun d => PyData.bool (decide (h % intOf d = 0))) = ((irng 2 (h - 2).toNat).map fun d => decide (h % d = 0)).map PyData.bool := by
  rw [rgD_irng, List.map_map, List.map_map] <;> rfl
theorem any_comp (h : Int) : (((irng 2 (h - 2).toNat).map fun d => decide (h % d = 0)).any id) = compB h := by
  unfold compB
  rw [List.any_map] <;> rfl
abbrev Gcp (P : Program) (w : World) (K : PySem.W.Frag) (mg : Str → Option Value) (base : Heap) : Prop := Fn P w K mg base 1 "check_prime" ["number"] (spE f_check_prime 1)
theorem fn_check_prime (T : Tx K mg) : Gcp P w K mg base := by
  refine T.d_check_prime.fnE sc_check_prime fun f cdv A outer s H1 H0 Q ds d hA S hf hl q => ?_
  obtain ⟨h, rfl, h1, h2, h3, rfl⟩ : ∃ h, ds = [.int h] ∧ 2 ≤ h ∧ h ≤ 13 ∧ compB h = false ∧ d = .none := by
    unfold f_check_prime at hf
    split at hf
    · split at hf
      · rename_i c
        simp only [Bool.and_eq_true, decide_eq_true_eq, Bool.not_eq_true'] at c
        exact ⟨_, rfl, c.1.1, c.1.2, c.2, (Option.some.inj hf).symm⟩
      · cases hf
    · cases hf
  refine ws_no (EB.to (eb_val (ev_any hA T.b_any (EV.to (ev_lcMap hA S (i := 1) (ei_rng2 hA T.b_range ev_int (by walk_at "v") ⟨by decide, by decide, by omega, by omega⟩) (fun d => PyData.bool (decide (h % intOf d = 0))) fun x hx => ?_) (congrArg PyData.list (e_comp h))))) ((any_comp h).trans h3)) (ws_nil fun σ H s r => q .non H .none s .non rfl)
  rw [rgD_irng] at hx
  obtain ⟨n, hn, rfl⟩ := List.mem_map.mp hx
  have hb := irng_mem hn
  exact ev_eqI (ev_mod (by walk_at "v") (by walk_at "v") (by show 0 < n; omega)) ev_int
abbrev Rcp (P : Program) (w : World) (K : PySem.W.Frag) (mg : Str → Option Value) (base : Heap) (c : Value) : Prop := FnX P w K mg base 1 "check_prime" ["number"] (spR c (fun ds => ∃ h, ds = [.int h] ∧ 2 ≤ h ∧ h ≤ 13 ∧ compB h = true) 1)
theorem fx_check_prime (T : Tx K mg) {c : Value} (F : ExF K mg "NotPrime" c) : Rcp P w K mg base c := by
  refine T.d_check_prime.fnR sc_check_prime fun f cdv A outer s H1 H0 Q E ds hA S tk hp hl q => ?_
  obtain ⟨h, rfl, h1, h2, h3⟩ := hp
  refine ws_ifr (EB.to (eb_val (ev_any hA T.b_any (EV.to (ev_lcMap hA S (i := 1) (ei_rng2 hA T.b_range ev_int (by walk_at "v") ⟨by decide, by decide, by omega, by omega⟩) (fun d => PyData.bool (decide (h % intOf d = 0))) fun x hx => ?_) (congrArg PyData.list (e_comp h))))) ((any_comp h).trans h3)) (fun _ => ?_) fun e => by cases e
  · rw [rgD_irng] at hx
    obtain ⟨n, hn, rfl⟩ := List.mem_map.mp hx
    have hb := irng_mem hn
    exact ev_eqI (ev_mod (by walk_at "v") (by walk_at "v") (by show 0 < n; omega)) ev_int
  · exact ws_raise hA tk F fun σ H s r => q H s
theorem sc_symmetries : FnScope ["web"] ["web"] (defScope s_symmetries) := ⟨rfl, rfl, rfl, by decide +kernel, rfl, by decide +kernel, by decide +kernel⟩
abbrev Gsy (P : Program) (w : World) (K : PySem.W.Frag) (mg : Str → Option Value) (base : Heap) (t : Addr) : Prop := Fn P w K mg base 19 "symmetries" ["web"]
  (spX [t] (fun x : Int × List Int => [web x.1 x.2]) (fun x => WebOk x.1 x.2 ∧ compB x.1 = false) (fun x => .int (csym x.1.toNat (toW (wayL x.1 x.2)) : Nat)) 1)
theorem fn_symmetries (T : Tx K mg) {t : Addr} (g0 : Gchk P w K mg base) (gp : Gcp P w K mg base) (g1 : Fn P w K mg base 6 "net_of" ["web"] (spW FNet)) (g2 : Gcs P w K mg base t) : Gsy P w K mg base t := by
  refine T.d_symmetries.fnX sc_symmetries (fun _ _ => rfl) fun f cdv A outer s H1 H0 Q ⟨hh, ss⟩ hA S ⟨W, hc⟩ ht q => ?_
  have W : WebOk hh ss := W
  have hc : compB hh = false := hc
  have hw := W.1
  refine ws_expr (ev_call hA (g0.up (by decide)) (el1 (by walk_at "v")) (f_chk_web W)) ?_
  refine ws_expr (ev_call hA (gp.up (by decide)) (el1 (ev_ixT hA (ds := [.int hh, .tuple (ss.map .int)]) (by walk_at "v") ev_int rfl)) (d := .none) (by show (if _ then _ else _) = _; rw [if_pos (by simp [hc, hw])])) ?_
  exact ws_ret (ev_callX hA (g2.up (by decide)) (hh.toNat, toW (wayL hh ss)) (wayL_V W).1 (el1 (EV.to (ev_callW (F := FNet) hA (g1.up (by decide)) W (by walk_at "v")) (net_web6 W))) (ht := ht)) q
abbrev Rsy (P : Program) (w : World) (K : PySem.W.Frag) (mg : Str → Option Value) (base : Heap) (c : Value) : Prop := FnX P w K mg base 5 "symmetries" ["web"] (spR c (fun ds => ∃ h st, ds = [web h st] ∧ WebOk h st ∧ compB h = true) 1)
theorem fx_symmetries (T : Tx K mg) {c : Value} (g0 : Gchk P w K mg base) (gp : Rcp P w K mg base c) : Rsy P w K mg base c := by
  refine T.d_symmetries.fnR sc_symmetries fun f cdv A outer s H1 H0 Q E ds hA S tk hp hl q => ?_
  obtain ⟨h, st, rfl, W, hc⟩ := hp
  have hw := W.1
  refine ws_expr (ev_call hA (g0.up (by decide)) (el1 (by walk_at "v")) (f_chk_web W)) ?_
  exact ws_exprF (ep_raise hA tk (gp.up (by decide)) (el1 (ev_ixT hA (ds := [.int h, .tuple (st.map .int)]) (by walk_at "v") ev_int rfl)) ⟨h, rfl, hw.1, hw.2, hc⟩ fun σ H s r => q H s)
end
end SK


set_option Elab.async false
set_option linter.all false
set_option maxRecDepth 100000
set_option maxHeartbeats 2000000
/-! Skd5: the law of what is refused: its end. -/
namespace SK
open PySem SW
open L2 hiding Same
open LamX (TabB)
def nL10 : List Str := ["script", "row", "web", "net", "odd", "some", "word", "bad", "far", "wide", "works", "told", "work", "one", "halls"]
theorem sc_law10 : FnScope nL10 ["script"] (defScope s_law) := ⟨rfl, rfl, rfl, by decide +kernel, rfl, by decide +kernel, by decide +kernel⟩
abbrev bd10 (P : Program) (w : World) (K : PySem.W.Frag) (mg : Str → Option Value) (base : Heap) (f : Addr) (cdv : Value) (A : Around) (outer : List Env) (s : Shared) (H : Hp) := bdF P w K mg base nL10 "law" (defScope s_law) f cdv A outer s H
/-- the promises -/
structure Gs10 (P : Program) (w : World) (K : PySem.W.Frag) (mg : Str → Option Value) (base : Heap) (W N B R U : Addr) (cE : Value) (t1 t2 : Addr) : Prop where
  tk : Gtk P w K mg base
  pk : Fn P w K mg base 2 "_law_pick" ["row", "things"] (spRow K prePk postPk 1)
  wb : Fn P w K mg base 2 "_law_web" ["row", "most"] (spRow K preWb postWb 1)
  nt : Gnt P w K mg base
  dv : Fn P w K mg base 1 "_law_divisor" ["one", "other"] (spE f_law_divisor 2)
  iw : Fn P w K mg base 4 "is_web" ["value"] (spE f_is_web 1)
  inn : Fn P w K mg base 5 "is_net" ["value"] (spE f_is_net 1)
  er : ErF K mg W N B R U cE
  pW : PartE P w K mg base "BadWeb" W
  pN : PartE P w K mg base "BadNet" N
  wc : Fn P w K mg base 2 "_law_web_calls" ["bad", "good"] (spLams t1 LsW 2)
  nc : Fn P w K mg base 2 "_law_net_calls" ["bad", "good"] (spLams t2 LsN 2)
  gw : GWc P w K mg base (.ref U) (WBad W)
  gn : GNc P w K mg base (.ref U) (NBad N)
  tm : FnX P w K mg base 5 "times" ["web", "factor"] (spT (fun ds c fl => ∃ h st x, ds = [web h st, x] ∧ WebOk h st ∧ NoFac h x ∧ c = .ref B ∧ fl = none) 2)
  fc : FnX P w K mg base 3 "factors" ["halls"] (spT (pre1 (NoNum (.ref B))) 1)
  sy : FnX P w K mg base 5 "symmetries" ["web"] (spT (fun ds c' fl => (∃ h st, ds = [web h st] ∧ WebOk h st ∧ compB h = true) ∧ c' = .ref R ∧ fl = none) 1)
/-! the lambdas of the law -/
def lam21 : Expr := match (defBody s_law).getD 21 (.Pass ⟨0, 0, 0, 0⟩) with
  | .If (.Compare (.Call _ (l :: _) _ _) _ _ _) _ _ _ => l
  | _ => .Constant .none 0 ⟨0, 0, 0, 0⟩
def lam26 : Expr := match (defBody s_law).getD 26 (.Pass ⟨0, 0, 0, 0⟩) with
  | .Assign _ (.ListComp _ [⟨_, it, _, _⟩] _ _) _ => (eltsOf it).getD 0 (.Constant .none 0 ⟨0, 0, 0, 0⟩)
  | _ => .Constant .none 0 ⟨0, 0, 0, 0⟩
def lam28 : Expr := match (defBody s_law).getD 28 (.Pass ⟨0, 0, 0, 0⟩) with
  | .Return (some (.Compare (.ListComp (.Call _ (l :: _) _ _) _ _ _) _ _ _)) _ => l
  | _ => .Constant .none 0 ⟨0, 0, 0, 0⟩
def Q21 : LW := lwOf lam21 ["web", "bad"] [] ["web", "bad"] [2, 7] []
def Q24a : LW := lwOf (lamIn (defBody s_law) 24 0) ["bad"] [] ["bad"] [7] []
def Q24b : LW := lwOf (lamIn (defBody s_law) 24 1) ["a", "web", "far"] ["a"] ["web", "far"] [2, 8] [0]
def Q25a : LW := lwOf (lamIn (defBody s_law) 25 0) ["b", "net", "wide"] ["b"] ["net", "wide"] [3, 9] [0]
def Q25b : LW := lwOf (lamIn (defBody s_law) 25 1) ["c", "net", "wide"] ["c"] ["net", "wide"] [3, 9] [0]
def Q26 : LW := lwOf lam26 ["net", "wide"] [] ["net", "wide"] [3, 9] []
def Q28 : LW := lwOf lam28 ["halls"] [] ["halls"] [14] []
theorem okq_21 : LWok Q21 := ⟨NdefX.nscope_by (by decide +kernel), bind0 fun _ _ _ _ _ _ => rfl, rfl⟩
theorem okq_24a : LWok Q24a := ⟨NdefX.nscope_by (by decide +kernel), bind0 fun _ _ _ _ _ _ => rfl, rfl⟩
theorem okq_24b : LWok Q24b := ⟨NdefX.nscope_by (by decide +kernel), bind1 fun _ _ _ _ _ _ _ _ => ⟨_, rfl, rfl⟩, rfl⟩
theorem okq_25a : LWok Q25a := ⟨NdefX.nscope_by (by decide +kernel), bind1 fun _ _ _ _ _ _ _ _ => ⟨_, rfl, rfl⟩, rfl⟩
theorem okq_25b : LWok Q25b := ⟨NdefX.nscope_by (by decide +kernel), bind1 fun _ _ _ _ _ _ _ _ => ⟨_, rfl, rfl⟩, rfl⟩
theorem okq_26 : LWok Q26 := ⟨NdefX.nscope_by (by decide +kernel), bind0 fun _ _ _ _ _ _ => rfl, rfl⟩
theorem okq_28 : LWok Q28 := ⟨NdefX.nscope_by (by decide +kernel), bind0 fun _ _ _ _ _ _ => rfl, rfl⟩
/-- the law's cells: a lambda's captured names are cells of the law -/
def capB (L : LW) : Bool := (L.scope.names.all fun z => !decide (z.2 = .free) || decide ((defScope s_law).names.lookup z.1 = some .cell)) && (L.fr.all fun z => decide ((z, NameKind.free) ∈ L.scope.names)) && decide (L.js.map (fun j => nL10[j]?) = L.fr.map some)
theorem cap_of {X : Cx} {L : LW} (hs : X.env.scope = defScope s_law) (hN : X.N = nL10) (h : capB L = true) : LCap X L := by
  unfold capB at h
  simp only [Bool.and_eq_true, List.all_eq_true, Bool.or_eq_true, Bool.not_eq_true', decide_eq_true_eq, decide_eq_false_iff_not] at h
  refine ⟨fun z hz e => ?_, h.1.2, by rw [hN]; exact h.2⟩
  rcases h.1.1 z hz with k | k
  · exact absurd e k
  · rw [hs]; exact .inl k
theorem cap_law : ([Q21, Q24a, Q24b, Q25a, Q25b, Q26].all capB) = true := by decide +kernel
abbrev rhoA (r : Addr) (h : Int) (st : List Int) (n : Nat) (ws : Wy) (o : Nat → Option SD) : Env1 := [o 0, some (.raw (.ref r)), some (.dat (web h st)), some (.dat (netN n ws)), o 4, o 5, o 6, o 7, o 8, o 9, o 10, o 11, o 12, o 13, o 14]
def compsL : List Int := [4, 6, 8, 9, 10, 12]
theorem comps_ok : (compsL.all fun h => decide (2 ≤ h) && decide (h ≤ 13) && compB h) = true := by decide +kernel
theorem shp_p6 : Shp (.list (List.replicate 6 (.str "prime"))) := by decide +kernel
section
variable {P : Program} {w : World} {K : PySem.W.Frag} {mg : Str → Option Value} {base : Heap} {W N B R U t1 t2 : Addr} {cE : Value}
theorem ra_28 {h : Int} {k : Nat} (G : Gs10 P w K mg base W N B R U cE t1 t2) (hk : 8 ≤ k) (h1 : 2 ≤ h ∧ h ≤ 13) (h2 : compB h = true) : Rai P w K mg base k Q28 [.int h] (.ref R) none := fun q cl E H tell =>
  ep_raiseT at_lam tk_lam (G.sy.up (by omega)) (el1 (ev_tup (el2 (ev_var (d := .int h) (fun _ => pv 0) rfl) (ev_tup (ds := []) ea_nil (Nat.zero_le _))))) ⟨⟨h, [], rfl, ⟨h1, fun x hx => (by cases hx), List.Pairwise.nil⟩, h2⟩, rfl, rfl⟩ fun σ H' s r => tell.mono s
section
variable {f c t r : Addr} {A : Around} {outer : List Env} {s0 : Shared} {Hb H0 : Hp} {o : Nat → Option SD} {Q : VK} {h : Int} {st : List Int} {n : Nat} {ws : Wy}
theorem law10_last (T : Tx K mg) (G : Gs10 P w K mg base W N B R U cE t1 t2) (TB : TabB base mg c t) (hA : ∀ i, At (bd10 P w K mg base f (.ref c) A outer s0 Hb i) P w K mg base 59) (S : Sc (bd10 P w K mg base f (.ref c) A outer s0 Hb) nL10 (defScope s_law)) (tab : TabF H0 t) (q : ∀ H', Q (.bl true) H') :
    WS (bd10 P w K mg base f (.ref c) A outer s0 Hb) H0 (rhoA r h st n ws o) ((defBody s_law).drop 28) { nx := fun _ H' => Q .non H', rt := Q } := by
  refine ws_ret (EV.to (d' := .bool true) (ev_eq (d1 := .list (compsL.map fun _ => .str "prime")) (d2 := .list (List.replicate 6 (.str "prime"))) hA (EV.to (ev_lcMap hA S (i := 14) (ei_list (ds := compsL.map .int) hA (ev_lst (el_cons ev_int (el_cons ev_int (el_cons ev_int (el_cons ev_int (el_cons ev_int (el_cons ev_int ea_nil)))))) (Nat.le_of_lt (small1000 (by decide))))) (fun _ => .str "prime") fun d hd => ?_) rfl) (EV.to (ev_rep (ds := [.str "prime"]) (ev_lst (el1 ev_str)) ev_int ⟨by decide, by decide⟩ (by decide)) rfl) shp_p6 shp_p6) (congrArg PyData.bool (by decide +kernel))) fun v H' d s' rv e => by
    subst e
    cases rv
    exact q H'
  obtain ⟨g, hg, rfl⟩ := List.mem_map.mp hd
  have hc := List.all_eq_true.mp comps_ok g hg
  simp only [Bool.and_eq_true, decide_eq_true_eq] at hc
  have fr : ∀ (i : Unit × Shared × Hp × Addr × List (Str × Addr) × List Addr) (sc : Scope) (hsc : sc.names = [(("halls" : Str), NameKind.free), (("symmetries" : Str), NameKind.globalImplicit)]) (bs : Scope) (hb : bs.names.lookup ("halls" : Str) = some NameKind.cell), ∀ z ∈ sc.names, z.2 = NameKind.free → bs.names.lookup z.1 = some .cell ∨ bs.names.lookup z.1 = some .free := fun i sc hsc bs hb z hz e => by
    rw [hsc] at hz
    rcases List.mem_cons.mp hz with h | h
    · subst h; exact .inl hb
    · rw [List.mem_singleton] at h; subst h; cases e
  refine ev_thunk (L := Q28) (ds := [.int g]) (c := .ref R) (fl := none) (k := 57) (qn := fun i => (blkF (bd10 P w K mg base f (.ref c) A outer s0 Hb) _ i).env.qual ++ "<lambda>") (cl := fun i => cloFrom (blkF (bd10 P w K mg base f (.ref c) A outer s0 Hb) _ i).env.cells Q28.scope.names []) (at_blk hA) T.d_law_error sc_law_error rfl (.inl rfl) (wd_prime T G.er) okq_28 (ra_28 G (by decide) hc.1 hc.2) (fun i pins σ H s J sm rs => ?_)
    (al_lam (L := Q28) (at_blk hA) TB (fun _ => rfl) (fun _ => rfl) (.inl ⟨rfl, fun _ => rfl⟩) (fun i => fr i _ rfl _ rfl) tab)
  obtain ⟨ws, e1, e2⟩ := slots_of (js := Q28.js) (ds := [.int g]) rs rfl
  refine ⟨ws, ?_, e2⟩
  rw [← e1]
  exact NdefX.cells_of J (NdefX.Caps.made J.ok (fr i _ rfl _ rfl) (fun z hz => by rw [List.mem_singleton.mp hz]; exact List.mem_cons_self) rfl)
end
end
end SK


set_option Elab.async false
set_option linter.all false
set_option maxRecDepth 100000
set_option maxHeartbeats 2000000
/-! Skd6: the law of what is refused: factors, unlike ones. -/
namespace SK
open PySem SW
open L2 hiding Same
open LamX (TabB)
def numL : List PyData := [.none, .int 1, .int 14, .bool true, .str "5"]
theorem num_ok : (numL.all fun d => !isNum d 2 13) = true := by decide +kernel
def toldL : List PyData := [.str "number", .str "unlike", .str "unlike", .str "unlike", .str "unlike"]
theorem shp_told : Shp (.list toldL) := by decide +kernel
section
variable {P : Program} {w : World} {K : PySem.W.Frag} {mg : Str → Option Value} {base : Heap} {W N B R U t1 t2 : Addr} {cE : Value} {k : Nat}
variable {h h' : Int} {st st' : List Int} {n n' : Nat} {ws ws' : Wy} {d : PyData}
theorem ra_24a (G : Gs10 P w K mg base W N B R U cE t1 t2) (hk : 8 ≤ k) (hd : isNum d 2 13 = false) : Rai P w K mg base k Q24a [d] (.ref B) none := fun q cl E H tell =>
  ep_raiseT at_lam tk_lam (G.fc.up (by omega)) (el1 (ev_var (d := d) (fun _ => pv 0) rfl)) ⟨d, rfl, hd, rfl, rfl⟩ fun σ H' s r => tell.mono s
theorem ra_24b (G : Gs10 P w K mg base W N B R U cE t1 t2) (hk : 8 ≤ k) (W1 : WebOk h st) (W2 : WebOk h' st') (ne : h ≠ h') : Rai P w K mg base k Q24b [web h st, web h' st'] (.ref U) none := fun q cl E H tell =>
  ep_raiseT at_lam tk_lam (G.gw.are_multiples.up (by omega)) (el2 (ev_var (d := web h st) (fun _ => pv 1) rfl) (ev_var (d := web h' st') (fun _ => pv 2) rfl)) ⟨_, _, rfl, .inr ⟨h, st, rfl, W1, .inr ⟨h', st', rfl, W2, ne, rfl, rfl⟩⟩⟩ fun σ H' s r => tell.mono s
theorem pre_un (V1 : NetV n ws) (V2 : NetV n' ws') (ne : n ≠ n') : preN2 (.ref U) (NBad N) (netN n ws) (netN n' ws') (.ref U) none := .inr ⟨n, ws, rfl, V1, .inr ⟨n', ws', rfl, V2, ne, rfl, rfl⟩⟩
theorem ra_25a (G : Gs10 P w K mg base W N B R U cE t1 t2) (hk : 8 ≤ k) (V1 : NetV n ws) (V2 : NetV n' ws') (ne : n ≠ n') : Rai P w K mg base k Q25a [netN n ws, netN n' ws'] (.ref U) none := fun q cl E H tell =>
  ep_raiseT at_lam tk_lam (G.gn.likeness.up (by omega)) (el2 (ev_var (d := netN n ws) (fun _ => pv 1) rfl) (ev_var (d := netN n' ws') (fun _ => pv 2) rfl)) ⟨_, _, rfl, pre_un V1 V2 ne⟩ fun σ H' s r => tell.mono s
theorem ra_25b (G : Gs10 P w K mg base W N B R U cE t1 t2) (hk : 8 ≤ k) (V1 : NetV n ws) (V2 : NetV n' ws') (ne : n ≠ n') : Rai P w K mg base k Q25b [netN n ws, netN n' ws'] (.ref U) none := fun q cl E H tell =>
  ep_raiseT at_lam tk_lam (G.gn.are_alike.up (by omega)) (el2 (ev_var (d := netN n ws) (fun _ => pv 1) rfl) (ev_var (d := netN n' ws') (fun _ => pv 2) rfl)) ⟨_, _, rfl, pre_un V1 V2 ne⟩ fun σ H' s r => tell.mono s
theorem ra_26 (G : Gs10 P w K mg base W N B R U cE t1 t2) (hk : 8 ≤ k) (V1 : NetV n ws) (V2 : NetV n' ws') (ne : n ≠ n') : Rai P w K mg base k Q26 [netN n ws, netN n' ws'] (.ref U) none := fun q cl E H tell =>
  ep_raiseT at_lam tk_lam (G.gn.shows_likeness.up (by omega)) (el3 (ev_var (d := netN n ws) (fun _ => pv 0) rfl) (ev_var (d := netN n' ws') (fun _ => pv 1) rfl) ev_non) ⟨_, _, _, rfl, pre_un V1 V2 ne⟩ fun σ H' s r => tell.mono s
theorem ra_21 (G : Gs10 P w K mg base W N B R U cE t1 t2) (hk : 8 ≤ k) (W1 : WebOk h st) (hd : NoFac h d) : Rai P w K mg base k Q21 [web h st, d] (.ref B) none := fun q cl E H tell =>
  ep_raiseT at_lam tk_lam (G.tm.up (by omega)) (el2 (ev_var (d := web h st) (fun _ => pv 0) rfl) (ev_var (d := d) (fun _ => pv 1) rfl)) ⟨h, st, d, rfl, W1, hd, rfl, rfl⟩ fun σ H' s r => tell.mono s
section
variable {f c t r : Addr} {A : Around} {outer : List Env} {s0 : Shared} {Hb H0 : Hp} {o : Nat → Option SD} {Q : VK}
theorem law10_told (T : Tx K mg) (G : Gs10 P w K mg base W N B R U cE t1 t2) (TB : TabB base mg c t) (hA : ∀ i, At (bd10 P w K mg base f (.ref c) A outer s0 Hb i) P w K mg base 59) (S : Sc (bd10 P w K mg base f (.ref c) A outer s0 Hb) nL10 (defScope s_law)) (hrow : RowAt K H0 r) (tab : TabF H0 t)
    (W1 : WebOk h st) (h9 : h ≤ 9) (V1 : NetV n ws) (n5 : n ≤ 5) (q : ∀ H', Q (.bl true) H') :
    WS (bd10 P w K mg base f (.ref c) A outer s0 Hb) H0 (rhoA r h st n ws o) ((defBody s_law).drop 22) { nx := fun _ H' => Q .non H', rt := Q } := by
  refine ws_set (i := 7) (Φ := fun d => d ∈ numL) (ep_row hA (G.pk.up (by decide)) hrow (fun _ => pv 1) rfl (el1 (ev_lst (ds := numL) (el_cons ev_non (el_cons ev_int (el_cons ev_int (el_cons ev_bl (el_cons ev_str ea_nil))))) (Nat.le_of_lt (small1000 (by decide))))) fun ds e => ?_) S fun bd hd => ?_
  · subst e
    refine ⟨rfl, ⟨_, rfl, by decide, by decide⟩, fun d ⟨l, e, hd⟩ => ?_⟩
    injection e with e
    injection e with e
    rw [← e] at hd
    exact hd
  have hn : isNum bd 2 13 = false := by
    have z := List.all_eq_true.mp num_ok bd hd
    simpa using z
  have hw := W1.1
  refine ws_two hA (i := 8) (j := 9) (Φ := fun x y => x = web (h + 1) [] ∧ y = netN (n + 1) []) (EP.mono (ev_tup (ds := [web (h + 1) [], netN (n + 1) []]) (el2 (ev_tup (el2 (ev_add (ev_ixT hA (ds := [.int h, .tuple (st.map .int)]) (ev_var (fun _ => pv 2) rfl) ev_int rfl) ev_int) (ev_tup (ds := []) ea_nil (Nat.zero_le _)))) (ev_tup (el2 (EV.to (d' := .int ((n + 1 : Nat) : Int)) (ev_add (ev_ixT hA (ds := [.int (n : Int), .tuple (wyD ws)]) (ev_var (fun _ => pv 3) rfl) ev_int rfl) ev_int) (by rw [Int.natCast_add] <;> rfl)) (ev_tup (ds := []) ea_nil (Nat.zero_le _)))))) fun d e => ⟨_, _, e, rfl, rfl⟩) S fun d d' ⟨e, e'⟩ => ?_
  subst e e'
  have W2 : WebOk (h + 1) [] := ⟨⟨by omega, by omega⟩, fun x hx => (by cases hx), List.Pairwise.nil⟩
  have V2 : NetV (n + 1) [] := netV_sub (by omega) (by omega) (List.nil_sublist _)
  have ne1 : h ≠ h + 1 := by omega
  have ne2 : n ≠ n + 1 := by omega
  have caps : ∀ L ∈ [Q24a, Q24b, Q25a, Q25b, Q26], LCap (bd10 P w K mg base f (.ref c) A outer s0 Hb ()) L := fun L hL => cap_of rfl rfl (List.all_eq_true.mp cap_law L (List.mem_cons_of_mem _ hL))
  have fr : ∀ L ∈ [Q24a, Q24b, Q25a, Q25b, Q26], ∀ i, ∀ z ∈ L.scope.names, z.2 = .free → (bd10 P w K mg base f (.ref c) A outer s0 Hb i).env.scope.names.lookup z.1 = some .cell ∨ (bd10 P w K mg base f (.ref c) A outer s0 Hb i).env.scope.names.lookup z.1 = some .free := fun L hL _ => (caps L hL).free
  refine ws_setEM (Ls := [Q24a, Q24b]) (i := 10) (em_list (ema_cons (emoF (L := Q24a) hA TB (fun _ => rfl) (fun _ => rfl) (.inl ⟨rfl, fun _ => rfl⟩) (fr _ (by simp)) tab) (ema_cons (emoF (L := Q24b) hA TB (fun _ => rfl) (fun _ => rfl) (.inr ⟨_, _, _, rfl, rfl, rfl⟩) (fr _ (by simp)) tab) ema_nil)) (by decide)) S fun p xs H2 s2 hp kn => ?_
  have tab2 := s2.tab _ tab
  refine ws_setEM (Ls := [Q24a, Q24b, Q25a, Q25b]) (i := 10) (em_add (em_var (Ls := [Q24a, Q24b]) (fun _ => pv 10) rfl hp kn) (Ms := [Q25a, Q25b]) (em_list (ema_cons (emoF (L := Q25a) hA TB (fun _ => rfl) (fun _ => rfl) (.inr ⟨_, _, _, rfl, rfl, rfl⟩) (fr _ (by simp)) tab2) (ema_cons (emoF (L := Q25b) hA TB (fun _ => rfl) (fun _ => rfl) (.inr ⟨_, _, _, rfl, rfl, rfl⟩) (fr _ (by simp)) tab2) ema_nil)) (by decide)) (by decide)) S fun p' xs' H3 s3 hp' kn' => ?_
  have tab3 := s3.tab _ tab2
  refine ws_setLcW (i0 := 12) (i1 := 11) (ds := toldL) (PrC (bd10 P w K mg base f (.ref c) A outer s0 Hb ()) [Q24a, Q24b, Q25a, Q25b, Q26]) hA S (em_add (em_var (Ls := [Q24a, Q24b, Q25a, Q25b]) (fun _ => pv 10) rfl hp' kn') (Ms := [Q26]) (em_list (ema_cons (emoF (L := Q26) hA TB (fun _ => rfl) (fun _ => rfl) (.inl ⟨rfl, fun _ => rfl⟩) (fr _ (by simp)) tab3) ema_nil) (by decide)) (by decide)) rfl (prC caps) (fun σ H4 s4 r4 i L d g hL hd lam => ?_) ?_
  · rcases i with _ | _ | _ | _ | _ | i
    · cases hL
      cases hd
      exact ev_work (L := Q24a) (dL := [bd]) (k := 57) hA (by simp) r4 lam T.d_law_error sc_law_error rfl (.inl rfl) (wd_number T G.er) okq_24a (ra_24a G (by decide) hn) rfl (by show 12 < 15; decide) (fun _ => pv 12)
    · cases hL
      cases hd
      exact ev_work (L := Q24b) (dL := [web h st, web (h + 1) []]) (k := 57) hA (by simp) r4 lam T.d_law_error sc_law_error rfl (.inl rfl) (wd_unlike T G.er) okq_24b (ra_24b G (by decide) W1 W2 ne1) rfl (by show 12 < 15; decide) (fun _ => pv 12)
    · cases hL
      cases hd
      exact ev_work (L := Q25a) (dL := [netN n ws, netN (n + 1) []]) (k := 57) hA (by simp) r4 lam T.d_law_error sc_law_error rfl (.inl rfl) (wd_unlike T G.er) okq_25a (ra_25a G (by decide) V1 V2 ne2) rfl (by show 12 < 15; decide) (fun _ => pv 12)
    · cases hL
      cases hd
      exact ev_work (L := Q25b) (dL := [netN n ws, netN (n + 1) []]) (k := 57) hA (by simp) r4 lam T.d_law_error sc_law_error rfl (.inl rfl) (wd_unlike T G.er) okq_25b (ra_25b G (by decide) V1 V2 ne2) rfl (by show 12 < 15; decide) (fun _ => pv 12)
    · cases hL
      cases hd
      exact ev_work (L := Q26) (dL := [netN n ws, netN (n + 1) []]) (k := 57) hA (by simp) r4 lam T.d_law_error sc_law_error rfl (.inl rfl) (wd_unlike T G.er) okq_26 (ra_26 G (by decide) V1 V2 ne2) rfl (by show 12 < 15; decide) (fun _ => pv 12)
    · cases hL
  · refine ws_no (EB.to (d' := false) (eb_ne (d1 := .list toldL) (d2 := .list toldL) hA (ev_var (fun _ => pv 11) rfl) (ev_lst (ds := toldL) (el_cons ev_str (el_cons ev_str (el_cons ev_str (el_cons ev_str (el_cons ev_str ea_nil))))) (Nat.le_of_lt (small1000 (by decide)))) shp_told shp_told) (by decide +kernel)) ?_
    exact law10_last (o := fun z => if z = 7 then some (.dat bd) else if z = 8 then some (.dat (web (h + 1) [])) else if z = 9 then some (.dat (netN (n + 1) [])) else if z = 10 then some (.raw (.ref p')) else if z = 11 then some (.dat (.list toldL)) else o z) (r := r) (h := h) (st := st) (n := n) (ws := ws) T G TB hA S tab3 q
end
end
end SK


set_option Elab.async false
set_option linter.all false
set_option maxRecDepth 100000
set_option maxHeartbeats 2000000
/-! Skd7: the law of what is refused: no factor of a web's halls. -/
namespace SK
open PySem SW
open L2 hiding Same
open LamX (TabB)
def oddF (h : Int) : PyData → Bool
  | .int i => decide (1 < maxI (dvs i h))
  | _ => false
theorem odd_ok : ((List.range 10).all fun h => (List.range 10).all fun x => !decide (1 < maxI (dvs (x : Int) (h : Int))) || decide ((Nat.gcd x h : Int) ≠ 1)) = true := by decide +kernel
section
variable {P : Program} {w : World} {K : PySem.W.Frag} {mg : Str → Option Value} {base : Heap} {W N B R U t1 t2 : Addr} {cE : Value} {k : Nat}
variable {h : Int} {st : List Int} {n : Nat} {ws : Wy} {d : PyData}
theorem noFac_of (h1 : 2 ≤ h) (h9 : h ≤ 9) (hd : d ∈ ((rgD 2 (h - 2).toNat).filter (oddF h)).map (fun d => d) ++ [.none, .int 0, .int h, .int (0 - 1), .bool true, .str "1"]) : NoFac h d := by
  rcases List.mem_append.mp hd with m | m
  · rw [List.map_id'] at m
    obtain ⟨m1, m2⟩ := List.mem_filter.mp m
    rw [rgD_irng] at m1
    obtain ⟨i, hi, rfl⟩ := List.mem_map.mp m1
    have hb := irng_mem hi
    refine .inr ⟨i, rfl, by simp [isNum]; omega, ?_⟩
    obtain ⟨x, rfl⟩ : ∃ x : Nat, i = (x : Int) := ⟨i.toNat, by omega⟩
    obtain ⟨y, rfl⟩ : ∃ y : Nat, h = (y : Int) := ⟨h.toNat, by omega⟩
    have z := List.all_eq_true.mp (List.all_eq_true.mp odd_ok y (List.mem_range.mpr (by omega))) x (List.mem_range.mpr (by omega))
    have m2 : decide (1 < maxI (dvs (x : Int) (y : Int))) = true := m2
    rw [m2] at z
    simpa using z
  · refine .inl ?_
    simp only [List.mem_cons, List.not_mem_nil, or_false] at m
    rcases m with rfl | rfl | rfl | rfl | rfl | rfl
    · rfl
    · simp [isNum]
    · simp [isNum]; omega
    · simp [isNum]
    · rfl
    · rfl
section
variable {f c t r : Addr} {A : Around} {outer : List Env} {s0 : Shared} {Hb H0 : Hp} {o : Nat → Option SD} {Q : VK}
theorem law10_bad (T : Tx K mg) (G : Gs10 P w K mg base W N B R U cE t1 t2) (TB : TabB base mg c t) (hA : ∀ i, At (bd10 P w K mg base f (.ref c) A outer s0 Hb i) P w K mg base 59) (S : Sc (bd10 P w K mg base f (.ref c) A outer s0 Hb) nL10 (defScope s_law)) (hrow : RowAt K H0 r) (tab : TabF H0 t)
    (W1 : WebOk h st) (h9 : h ≤ 9) (V1 : NetV n ws) (n5 : n ≤ 5) (q : ∀ H', Q (.bl true) H') :
    WS (bd10 P w K mg base f (.ref c) A outer s0 Hb) H0 (rhoA r h st n ws o) ((defBody s_law).drop 19) { nx := fun _ H' => Q .non H', rt := Q } := by
  have hw := W1.1
  refine ws_setLcIf hA S (i := 13) (i0 := 4) (ei_rng2 hA T.b_range ev_int (ev_ixT hA (ds := [.int h, .tuple (st.map .int)]) (ev_var (fun _ => pv 2) rfl) ev_int rfl) ⟨by decide, by decide, by omega, by omega⟩) (oddF h) (fun d => d) (fun d hd => ?_) ?_
  · rw [rgD_irng] at hd
    obtain ⟨i, hi, rfl⟩ := List.mem_map.mp hd
    have hb := irng_mem hi
    exact ⟨eb_gt (ev_call (at_blk hA) (G.dv.up (by decide)) (el2 (d1 := .int i) (ev_var (fun _ => pv 13) rfl) (ev_ixT (at_blk hA) (ds := [.int h, .tuple (st.map .int)]) (ev_var (fun _ => pv 2) rfl) ev_int rfl)) (d := .int (maxI (dvs i h))) (by show (if _ then _ else _) = _; rw [if_pos (by simp; omega)])) ev_int, fun _ => ev_var (fun _ => pv 13) rfl⟩
  have hlen : (((rgD 2 (h - 2).toNat).filter (oddF h)).map (fun d => d)).length ≤ 9 := by
    rw [List.length_map]
    refine Nat.le_trans (List.length_filter_le _ _) ?_
    rw [rgD_len]
    omega
  refine ws_set (i := 7) (Φ := fun d => NoFac h d) (ep_row hA (G.pk.up (by decide)) hrow (fun _ => pv 1) rfl (el1 (ev_cat (xs := ((rgD 2 (h - 2).toNat).filter (oddF h)).map (fun d => d)) (ys := [.none, .int 0, .int h, .int (0 - 1), .bool true, .str "1"]) (ev_var (fun _ => pv 4) rfl) (ev_lst (el_cons ev_non (el_cons ev_int (el_cons (ev_ixT hA (ds := [.int h, .tuple (st.map .int)]) (ev_var (fun _ => pv 2) rfl) ev_int rfl) (el_cons (ev_sub ev_int ev_int) (el_cons ev_bl (el_cons ev_str ea_nil)))))) (Nat.le_of_lt (small1000 (by show 6 ≤ 1000; decide)))) (Nat.le_of_lt (small1000 (by show _ + 6 ≤ 1000; omega))))) fun ds e => ?_) S fun bd hn => ?_
  · subst e
    refine ⟨rfl, ⟨_, rfl, by rw [List.length_append]; show 1 ≤ _ + 6; omega, by rw [List.length_append]; show _ + 6 ≤ 1000; omega⟩, fun d ⟨l, e, hd⟩ => ?_⟩
    injection e with e
    injection e with e
    rw [← e] at hd
    exact noFac_of hw.1 h9 hd
  have cap : LCap (bd10 P w K mg base f (.ref c) A outer s0 Hb ()) Q21 := cap_of rfl rfl (List.all_eq_true.mp cap_law Q21 List.mem_cons_self)
  refine ws_no (EB.to (eb_neS (x := "number") (ev_thunk (L := Q21) (ds := [web h st, bd]) (c := .ref B) (fl := none) (k := 57) (qn := fun i => (bd10 P w K mg base f (.ref c) A outer s0 Hb i).env.qual ++ "<lambda>") (cl := fun i => cloFrom (bd10 P w K mg base f (.ref c) A outer s0 Hb i).env.cells Q21.scope.names []) hA T.d_law_error sc_law_error rfl (.inl rfl) (wd_number T G.er) okq_21 (ra_21 G (by decide) W1 hn) (fun i pins σ H s J sm rs => ?_) (al_lam (L := Q21) hA TB (fun _ => rfl) (fun _ => rfl) (.inl ⟨rfl, fun _ => rfl⟩) (fun _ => cap.free) tab)) ev_str) (by decide)) ?_
  · obtain ⟨ws', e1, e2⟩ := slots_of (js := Q21.js) (ds := [web h st, bd]) rs rfl
    refine ⟨ws', ?_, e2⟩
    rw [← e1]
    exact NdefX.cells_of J (cap.caps J.ok)
  · exact law10_told (o := fun z => if z = 4 then some (.dat (.list (((rgD 2 (h - 2).toNat).filter (oddF h)).map (fun d => d)))) else if z = 7 then some (.dat bd) else o z) (r := r) (h := h) (st := st) (n := n) (ws := ws) T G TB hA S hrow tab W1 h9 V1 n5 q
end
end
end SK


set_option Elab.async false
set_option linter.all false
set_option maxRecDepth 100000
set_option maxHeartbeats 2000000
/-! Skd8: the law of what is refused: values that are no webs, no nets. -/
namespace SK
open PySem SW
open L2 hiding Same
open LamX (TabB)
section
variable {I : Type} {X : Unit → Cx} {H0 : Hp} {ρ : Env1} {e : Expr} {es : List Expr} {pos : Pos}
variable {P : Program} {w : World} {K : PySem.W.Frag} {mg : Str → Option Value} {base : Heap} {k : Nat} {x : Str} {p : Pos} {ps : List Str}
/-- f(e, ..), f returns lambdas -/
theorem emo_call {t : Addr} {Ls : List LW} {n : Nat} {ds : List PyData} (hA : ∀ i, At (X i) P w K mg base k) (hf : Fn P w K mg base k x ps (spLams t Ls n)) (ha : EL X H0 ρ (e :: es) ds) (tab : TabF H0 t) (hn : ds.length = n := by rfl) (hg : ∀ i, Gl (X i) x := by intro _; rfl) (hdb : (x == ("__debug__" : Str)) = false := by decide)
    (he : ∀ i, starEach (e :: es) (X i).env = (false, eval e (X i).env) :: starEach es (X i).env := by intro _; rfl) (hpl : ∀ i, (backTo pos (starEach es (X i).env)).any (·.1) = false := by intro _; rfl) :
    EMO X H0 ρ (.Call (.Name x p) (e :: es) [] pos) (Ls.map fun L => (L, L.js.map fun j => ds.getD j .none)) := fun σ H s r H1 Q s1 q =>
  ue_call (E := E0) hA hf pa_u (ha σ H s r H1 _ s1 fun vs H2 ds' s2 rr e1 => by
    subst e1
    exact ⟨by rw [rr.length]; exact hn, (s.trans (s1.trans s2)).tab _ tab, _, rr, fun p xs H' s3 hp kn => q p xs H' (s2.trans s3) hp kn⟩) hg hdb he hpl
end
def okPair (f : PyData → Str) (nm : Str) : PyData → Bool
  | .tuple [x, .str u] => decide (f x = u) && !decide (u = "") && SeqAt.shaped (.tuple [.str nm, .str u])
  | _ => false
theorem okPair_of {f : PyData → Str} {nm : Str} {d : PyData} (h : okPair f nm d = true) : ∃ x u, d = .tuple [x, .str u] ∧ f x = u ∧ u ≠ "" ∧ Shp (.tuple [.str nm, .str u]) := by
  unfold okPair at h
  split at h
  · simp only [Bool.and_eq_true, Bool.not_eq_true', decide_eq_true_eq, decide_eq_false_iff_not] at h
    exact ⟨_, _, rfl, h.1.1, h.1.2, h.2⟩
  · cases h
theorem eqv_pair10 (a b : Str) : (!PyData.eqv (.tuple [.str a, .str b]) (.tuple [.str a, .str b])) = false := by
  show (!((a == a) && ((b == b) && true))) = false
  simp
theorem eqv_nil : (!PyData.eqv (.list []) (.list [])) = false := rfl
theorem shp_nil10 : Shp (.list []) := by decide +kernel
def odW0 : List PyData := [.tuple [.none, .str "whole"], .tuple [.list [.int 5, .tuple [.int 1]], .str "whole"], .tuple [.tuple [.int 5], .str "whole"]]
def odW1 : List PyData := [.tuple [dctI [], .str "whole"], .tuple [.tuple [.int 1, .tuple []], .str "halls"], .tuple [.tuple [.int 14, .tuple []], .str "halls"]]
def odW2 : List PyData := [.tuple [.tuple [.bool true, .tuple []], .str "halls"], .tuple [.tuple [.str "5", .tuple []], .str "halls"], .tuple [.tuple [.int 5, .list [.int 1]], .str "steps"]]
def odW3 : List PyData := [.tuple [.tuple [.int 5, .tuple [.int 0]], .str "steps"], .tuple [.tuple [.int 5, .tuple [.int 5]], .str "steps"]]
def odW4 : List PyData := [.tuple [.tuple [.int 5, .tuple [.int 2, .int 1]], .str "steps"], .tuple [.tuple [.int 5, .tuple [.int 1, .int 1]], .str "steps"], .tuple [.tuple [.int 5, .tuple [.bool true]], .str "steps"], .tuple [.tuple [.int 5, .int 1], .str "steps"]]
def odW : List PyData := ((((odW0 ++ odW1) ++ odW2) ++ odW3) ++ odW4)
theorem odW_ok : (odW.all (okPair wrongWeb "web")) = true := by decide +kernel
theorem odW_len : 1 ≤ odW.length ∧ odW.length ≤ 1000 := by decide +kernel
def odN0 : List PyData := [.tuple [.none, .str "whole"], .tuple [.list [.int 2, .tuple []], .str "whole"], .tuple [.tuple [.int 2], .str "whole"]]
def odN1 : List PyData := [.tuple [.str "net", .str "whole"], .tuple [.tuple [.int 0, .tuple []], .str "halls"], .tuple [.tuple [.int 14, .tuple []], .str "halls"]]
def odN2 : List PyData := [.tuple [.tuple [.bool true, .tuple []], .str "halls"], .tuple [.tuple [.int 2, .list [.tuple [.int 0, .int 1]]], .str "ways"], .tuple [.tuple [.int 2, .tuple [.tuple [.int 0, .int 0]]], .str "ways"]]
def odN3 : List PyData := [.tuple [.tuple [.int 2, .tuple [.tuple [.int 0, .int 2]]], .str "ways"], .tuple [.tuple [.int 2, .tuple [.tuple [.int 0]]], .str "ways"]]
def odN4 : List PyData := [.tuple [.tuple [.int 2, .tuple [.tuple [.int 1, .int 0], .tuple [.int 0, .int 1]]], .str "ways"], .tuple [.tuple [.int 2, .tuple [.tuple [.int 0, .int 1], .tuple [.int 0, .int 1]]], .str "ways"]]
def odN5 : List PyData := [.tuple [.tuple [.int 2, .tuple [.list [.int 0, .int 1]]], .str "ways"], .tuple [.tuple [.int 2, .tuple [.tuple [.int 0, .bool true]]], .str "ways"]]
def odN : List PyData := (((((odN0 ++ odN1) ++ odN2) ++ odN3) ++ odN4) ++ odN5)
theorem odN_ok : (odN.all (okPair wrongNet "net")) = true := by decide +kernel
theorem odN_len : 1 ≤ odN.length ∧ odN.length ≤ 1000 := by decide +kernel
section
variable {P : Program} {w : World} {K : PySem.W.Frag} {mg : Str → Option Value} {base : Heap} {W N B R U t1 t2 : Addr} {cE : Value} {k : Nat}
variable {h : Int} {st : List Int} {n : Nat} {ws : Wy}
variable {f c t r : Addr} {A : Around} {outer : List Env} {s0 : Shared} {Hb H0 : Hp} {o : Nat → Option SD} {Q : VK}
theorem law10_net (T : Tx K mg) (G : Gs10 P w K mg base W N B R U cE t1 t2) (TB : TabB base mg c t) (hA : ∀ i, At (bd10 P w K mg base f (.ref c) A outer s0 Hb i) P w K mg base 59) (S : Sc (bd10 P w K mg base f (.ref c) A outer s0 Hb) nL10 (defScope s_law)) (hrow : RowAt K H0 r) (tab : TabF H0 t) (tab1 : TabF H0 t1) (tab2 : TabF H0 t2)
    (W1 : WebOk h st) (h9 : h ≤ 9) (V1 : NetV n ws) (n5 : n ≤ 5) (q : ∀ H', Q (.bl true) H') :
    WS (bd10 P w K mg base f (.ref c) A outer s0 Hb) H0 (rhoA r h st n ws o) ((defBody s_law).drop 10) { nx := fun _ H' => Q .non H', rt := Q } := by
  refine ws_set (i := 4) (ev_lst (ds := odN0) (el3 (ev_tup (ds := [.none, .str "whole"]) (el2 ev_non ev_str)) (ev_tup (ds := [.list [.int 2, .tuple []], .str "whole"]) (el2 (ev_lst (ds := [.int 2, .tuple []]) (el2 ev_int (ev_tup (ds := []) ea_nil (Nat.zero_le _)))) ev_str)) (ev_tup (ds := [.tuple [.int 2], .str "whole"]) (el2 (ev_tup (ds := [.int 2]) (el1 ev_int)) ev_str))) (Nat.le_of_lt (small1000 (by decide)))) S fun d e => ?_
  subst e
  refine ws_set (i := 4) (ev_cat (xs := odN0) (ys := odN1) (ev_var (fun _ => pv 4) rfl) (ev_lst (ds := odN1) (el3 (ev_tup (ds := [.str "net", .str "whole"]) (el2 ev_str ev_str)) (ev_tup (ds := [.tuple [.int 0, .tuple []], .str "halls"]) (el2 (ev_tup (ds := [.int 0, .tuple []]) (el2 ev_int (ev_tup (ds := []) ea_nil (Nat.zero_le _)))) ev_str)) (ev_tup (ds := [.tuple [.int 14, .tuple []], .str "halls"]) (el2 (ev_tup (ds := [.int 14, .tuple []]) (el2 ev_int (ev_tup (ds := []) ea_nil (Nat.zero_le _)))) ev_str))) (Nat.le_of_lt (small1000 (by decide)))) (Nat.le_of_lt (small1000 (by decide)))) S fun d e => ?_
  subst e
  refine ws_set (i := 4) (ev_cat (xs := (odN0 ++ odN1)) (ys := odN2) (ev_var (fun _ => pv 4) rfl) (ev_lst (ds := odN2) (el3 (ev_tup (ds := [.tuple [.bool true, .tuple []], .str "halls"]) (el2 (ev_tup (ds := [.bool true, .tuple []]) (el2 ev_bl (ev_tup (ds := []) ea_nil (Nat.zero_le _)))) ev_str)) (ev_tup (ds := [.tuple [.int 2, .list [.tuple [.int 0, .int 1]]], .str "ways"]) (el2 (ev_tup (ds := [.int 2, .list [.tuple [.int 0, .int 1]]]) (el2 ev_int (ev_lst (ds := [.tuple [.int 0, .int 1]]) (el1 (ev_tup (ds := [.int 0, .int 1]) (el2 ev_int ev_int)))))) ev_str)) (ev_tup (ds := [.tuple [.int 2, .tuple [.tuple [.int 0, .int 0]]], .str "ways"]) (el2 (ev_tup (ds := [.int 2, .tuple [.tuple [.int 0, .int 0]]]) (el2 ev_int (ev_tup (ds := [.tuple [.int 0, .int 0]]) (el1 (ev_tup (ds := [.int 0, .int 0]) (el2 ev_int ev_int)))))) ev_str))) (Nat.le_of_lt (small1000 (by decide)))) (Nat.le_of_lt (small1000 (by decide)))) S fun d e => ?_
  subst e
  refine ws_set (i := 4) (ev_cat (xs := ((odN0 ++ odN1) ++ odN2)) (ys := odN3) (ev_var (fun _ => pv 4) rfl) (ev_lst (ds := odN3) (el2 (ev_tup (ds := [.tuple [.int 2, .tuple [.tuple [.int 0, .int 2]]], .str "ways"]) (el2 (ev_tup (ds := [.int 2, .tuple [.tuple [.int 0, .int 2]]]) (el2 ev_int (ev_tup (ds := [.tuple [.int 0, .int 2]]) (el1 (ev_tup (ds := [.int 0, .int 2]) (el2 ev_int ev_int)))))) ev_str)) (ev_tup (ds := [.tuple [.int 2, .tuple [.tuple [.int 0]]], .str "ways"]) (el2 (ev_tup (ds := [.int 2, .tuple [.tuple [.int 0]]]) (el2 ev_int (ev_tup (ds := [.tuple [.int 0]]) (el1 (ev_tup (ds := [.int 0]) (el1 ev_int)))))) ev_str))) (Nat.le_of_lt (small1000 (by decide)))) (Nat.le_of_lt (small1000 (by decide)))) S fun d e => ?_
  subst e
  refine ws_set (i := 4) (ev_cat (xs := (((odN0 ++ odN1) ++ odN2) ++ odN3)) (ys := odN4) (ev_var (fun _ => pv 4) rfl) (ev_lst (ds := odN4) (el2 (ev_tup (ds := [.tuple [.int 2, .tuple [.tuple [.int 1, .int 0], .tuple [.int 0, .int 1]]], .str "ways"]) (el2 (ev_tup (ds := [.int 2, .tuple [.tuple [.int 1, .int 0], .tuple [.int 0, .int 1]]]) (el2 ev_int (ev_tup (ds := [.tuple [.int 1, .int 0], .tuple [.int 0, .int 1]]) (el2 (ev_tup (ds := [.int 1, .int 0]) (el2 ev_int ev_int)) (ev_tup (ds := [.int 0, .int 1]) (el2 ev_int ev_int)))))) ev_str)) (ev_tup (ds := [.tuple [.int 2, .tuple [.tuple [.int 0, .int 1], .tuple [.int 0, .int 1]]], .str "ways"]) (el2 (ev_tup (ds := [.int 2, .tuple [.tuple [.int 0, .int 1], .tuple [.int 0, .int 1]]]) (el2 ev_int (ev_tup (ds := [.tuple [.int 0, .int 1], .tuple [.int 0, .int 1]]) (el2 (ev_tup (ds := [.int 0, .int 1]) (el2 ev_int ev_int)) (ev_tup (ds := [.int 0, .int 1]) (el2 ev_int ev_int)))))) ev_str))) (Nat.le_of_lt (small1000 (by decide)))) (Nat.le_of_lt (small1000 (by decide)))) S fun d e => ?_
  subst e
  refine ws_set (i := 4) (ev_cat (xs := ((((odN0 ++ odN1) ++ odN2) ++ odN3) ++ odN4)) (ys := odN5) (ev_var (fun _ => pv 4) rfl) (ev_lst (ds := odN5) (el2 (ev_tup (ds := [.tuple [.int 2, .tuple [.list [.int 0, .int 1]]], .str "ways"]) (el2 (ev_tup (ds := [.int 2, .tuple [.list [.int 0, .int 1]]]) (el2 ev_int (ev_tup (ds := [.list [.int 0, .int 1]]) (el1 (ev_lst (ds := [.int 0, .int 1]) (el2 ev_int ev_int)))))) ev_str)) (ev_tup (ds := [.tuple [.int 2, .tuple [.tuple [.int 0, .bool true]]], .str "ways"]) (el2 (ev_tup (ds := [.int 2, .tuple [.tuple [.int 0, .bool true]]]) (el2 ev_int (ev_tup (ds := [.tuple [.int 0, .bool true]]) (el1 (ev_tup (ds := [.int 0, .bool true]) (el2 ev_int ev_bl)))))) ev_str))) (Nat.le_of_lt (small1000 (by decide)))) (Nat.le_of_lt (small1000 (by decide)))) S fun d e => ?_
  subst e
  refine ws_two hA (i := 5) (j := 6) (Φ := fun x y => ∃ u, y = .str u ∧ wrongNet x = u ∧ u ≠ "" ∧ Shp (.tuple [.str "net", .str u])) (ep_row hA (G.pk.up (by decide)) hrow (fun _ => pv 1) rfl (el1 (ev_var (d := .list odN) (fun _ => pv 4) rfl)) fun ds e => ?_) S fun x y ⟨u, e1, hu, nu, sh⟩ => ?_
  · subst e
    refine ⟨rfl, ⟨_, rfl, odN_len⟩, fun d ⟨l, e, hd⟩ => ?_⟩
    injection e with e
    injection e with e
    rw [← e] at hd
    obtain ⟨x, u, rfl, h1, h2, h3⟩ := okPair_of (List.all_eq_true.mp odN_ok d hd)
    exact ⟨x, .str u, rfl, u, rfl, h1, h2, h3⟩
  subst e1
  refine ws_no (EB.to (et_w (eb_or (p := false) (q := false) (EB.to (eb_isnot_bl (p := false) (q := false) (EV.to (ev_call hA (G.inn.up (by decide)) (el1 (ev_var (d := x) (fun _ => pv 5) rfl)) (d := .bool (decide (wrongNet x = ""))) rfl) (by rw [decide_eq_false (by rw [hu]; exact nu)])) ev_bl) rfl) fun _ => ew_or1 (EB.to (eb_isnot_bl (p := true) (q := true) (EV.to (ev_call hA (G.inn.up (by decide)) (el1 (ev_var (d := netN n ws) (fun _ => pv 3) rfl)) (d := .bool (decide (wrongNet (netN n ws) = ""))) rfl) (by rw [decide_eq_true (netV_right V1)])) ev_bl) rfl))) rfl) ?_
  refine ws_no (EB.to (eb_ne (d1 := .list []) (d2 := .list []) hA (ev_lcNo (i0 := 12) hA S (emo_call (ds := [x, netN n ws]) hA (G.nc.up (by decide)) (el2 (ev_var (fun _ => pv 5) rfl) (ev_var (fun _ => pv 3) rfl)) tab2) fun H2 s2 i L ds g qn cl vs hL lam kp ra => ?_) (ev_lst (ds := []) ea_nil (Nat.zero_le _)) shp_nil10 shp_nil10) eqv_nil) ?_
  · obtain ⟨okL, raL⟩ := all_N (k := 57) (c := .ref N) (fl := some (partL u)) (bad := x) G.gn (by decide) ⟨by rw [hu]; exact nu, rfl, by rw [hu]⟩ V1 i L ds hL
    exact EB.to (eb_ne (d1 := .tuple [.str "net", .str u]) (d2 := .tuple [.str "net", .str u]) (at_blk hA) (ev_thunkO (k := 57) (at_blk hA) T.d_law_error sc_law_error rfl (.inl rfl) (wd_net T G.er G.pN) okL raL kp ra (al_name (fun _ => pv 12) rfl lam)) (ev_tup (el2 ev_str (ev_var (fun _ => pv 6) rfl))) sh sh) (eqv_pair10 _ _)
  · exact law10_bad (o := fun z => if z = 4 then some (.dat (.list odN)) else if z = 5 then some (.dat x) else if z = 6 then some (.dat (.str u)) else o z) (r := r) (h := h) (st := st) (n := n) (ws := ws) T G TB hA S hrow tab W1 h9 V1 n5 q
theorem law10_web (T : Tx K mg) (G : Gs10 P w K mg base W N B R U cE t1 t2) (TB : TabB base mg c t) (hA : ∀ i, At (bd10 P w K mg base f (.ref c) A outer s0 Hb i) P w K mg base 59) (S : Sc (bd10 P w K mg base f (.ref c) A outer s0 Hb) nL10 (defScope s_law)) (hrow : RowAt K H0 r) (tab : TabF H0 t) (tab1 : TabF H0 t1) (tab2 : TabF H0 t2)
    (W1 : WebOk h st) (h9 : h ≤ 9) (V1 : NetV n ws) (n5 : n ≤ 5) (q : ∀ H', Q (.bl true) H') :
    WS (bd10 P w K mg base f (.ref c) A outer s0 Hb) H0 (rhoA r h st n ws o) ((defBody s_law).drop 2) { nx := fun _ H' => Q .non H', rt := Q } := by
  refine ws_set (i := 4) (ev_lst (ds := odW0) (el3 (ev_tup (ds := [.none, .str "whole"]) (el2 ev_non ev_str)) (ev_tup (ds := [.list [.int 5, .tuple [.int 1]], .str "whole"]) (el2 (ev_lst (ds := [.int 5, .tuple [.int 1]]) (el2 ev_int (ev_tup (ds := [.int 1]) (el1 ev_int)))) ev_str)) (ev_tup (ds := [.tuple [.int 5], .str "whole"]) (el2 (ev_tup (ds := [.int 5]) (el1 ev_int)) ev_str))) (Nat.le_of_lt (small1000 (by decide)))) S fun d e => ?_
  subst e
  refine ws_set (i := 4) (ev_cat (xs := odW0) (ys := odW1) (ev_var (fun _ => pv 4) rfl) (ev_lst (ds := odW1) (el3 (ev_tup (ds := [dctI [], .str "whole"]) (el2 ev_dict0 ev_str)) (ev_tup (ds := [.tuple [.int 1, .tuple []], .str "halls"]) (el2 (ev_tup (ds := [.int 1, .tuple []]) (el2 ev_int (ev_tup (ds := []) ea_nil (Nat.zero_le _)))) ev_str)) (ev_tup (ds := [.tuple [.int 14, .tuple []], .str "halls"]) (el2 (ev_tup (ds := [.int 14, .tuple []]) (el2 ev_int (ev_tup (ds := []) ea_nil (Nat.zero_le _)))) ev_str))) (Nat.le_of_lt (small1000 (by decide)))) (Nat.le_of_lt (small1000 (by decide)))) S fun d e => ?_
  subst e
  refine ws_set (i := 4) (ev_cat (xs := (odW0 ++ odW1)) (ys := odW2) (ev_var (fun _ => pv 4) rfl) (ev_lst (ds := odW2) (el3 (ev_tup (ds := [.tuple [.bool true, .tuple []], .str "halls"]) (el2 (ev_tup (ds := [.bool true, .tuple []]) (el2 ev_bl (ev_tup (ds := []) ea_nil (Nat.zero_le _)))) ev_str)) (ev_tup (ds := [.tuple [.str "5", .tuple []], .str "halls"]) (el2 (ev_tup (ds := [.str "5", .tuple []]) (el2 ev_str (ev_tup (ds := []) ea_nil (Nat.zero_le _)))) ev_str)) (ev_tup (ds := [.tuple [.int 5, .list [.int 1]], .str "steps"]) (el2 (ev_tup (ds := [.int 5, .list [.int 1]]) (el2 ev_int (ev_lst (ds := [.int 1]) (el1 ev_int)))) ev_str))) (Nat.le_of_lt (small1000 (by decide)))) (Nat.le_of_lt (small1000 (by decide)))) S fun d e => ?_
  subst e
  refine ws_set (i := 4) (ev_cat (xs := ((odW0 ++ odW1) ++ odW2)) (ys := odW3) (ev_var (fun _ => pv 4) rfl) (ev_lst (ds := odW3) (el2 (ev_tup (ds := [.tuple [.int 5, .tuple [.int 0]], .str "steps"]) (el2 (ev_tup (ds := [.int 5, .tuple [.int 0]]) (el2 ev_int (ev_tup (ds := [.int 0]) (el1 ev_int)))) ev_str)) (ev_tup (ds := [.tuple [.int 5, .tuple [.int 5]], .str "steps"]) (el2 (ev_tup (ds := [.int 5, .tuple [.int 5]]) (el2 ev_int (ev_tup (ds := [.int 5]) (el1 ev_int)))) ev_str))) (Nat.le_of_lt (small1000 (by decide)))) (Nat.le_of_lt (small1000 (by decide)))) S fun d e => ?_
  subst e
  refine ws_set (i := 4) (ev_cat (xs := (((odW0 ++ odW1) ++ odW2) ++ odW3)) (ys := odW4) (ev_var (fun _ => pv 4) rfl) (ev_lst (ds := odW4) (el_cons (ev_tup (ds := [.tuple [.int 5, .tuple [.int 2, .int 1]], .str "steps"]) (el2 (ev_tup (ds := [.int 5, .tuple [.int 2, .int 1]]) (el2 ev_int (ev_tup (ds := [.int 2, .int 1]) (el2 ev_int ev_int)))) ev_str)) (el_cons (ev_tup (ds := [.tuple [.int 5, .tuple [.int 1, .int 1]], .str "steps"]) (el2 (ev_tup (ds := [.int 5, .tuple [.int 1, .int 1]]) (el2 ev_int (ev_tup (ds := [.int 1, .int 1]) (el2 ev_int ev_int)))) ev_str)) (el_cons (ev_tup (ds := [.tuple [.int 5, .tuple [.bool true]], .str "steps"]) (el2 (ev_tup (ds := [.int 5, .tuple [.bool true]]) (el2 ev_int (ev_tup (ds := [.bool true]) (el1 ev_bl)))) ev_str)) (el_cons (ev_tup (ds := [.tuple [.int 5, .int 1], .str "steps"]) (el2 (ev_tup (ds := [.int 5, .int 1]) (el2 ev_int ev_int)) ev_str)) ea_nil)))) (Nat.le_of_lt (small1000 (by decide)))) (Nat.le_of_lt (small1000 (by decide)))) S fun d e => ?_
  subst e
  refine ws_two hA (i := 5) (j := 6) (Φ := fun x y => ∃ u, y = .str u ∧ wrongWeb x = u ∧ u ≠ "" ∧ Shp (.tuple [.str "web", .str u])) (ep_row hA (G.pk.up (by decide)) hrow (fun _ => pv 1) rfl (el1 (ev_var (d := .list odW) (fun _ => pv 4) rfl)) fun ds e => ?_) S fun x y ⟨u, e1, hu, nu, sh⟩ => ?_
  · subst e
    refine ⟨rfl, ⟨_, rfl, odW_len⟩, fun d ⟨l, e, hd⟩ => ?_⟩
    injection e with e
    injection e with e
    rw [← e] at hd
    obtain ⟨x, u, rfl, h1, h2, h3⟩ := okPair_of (List.all_eq_true.mp odW_ok d hd)
    exact ⟨x, .str u, rfl, u, rfl, h1, h2, h3⟩
  subst e1
  refine ws_no (EB.to (d' := false) (eb_isnot_bl (p := false) (q := false) (EV.to (ev_call hA (G.iw.up (by decide)) (el1 (ev_var (d := x) (fun _ => pv 5) rfl)) (d := .bool (decide (wrongWeb x = ""))) rfl) (by rw [decide_eq_false (by rw [hu]; exact nu)])) ev_bl) rfl) ?_
  refine ws_no (EB.to (eb_ne (d1 := .list []) (d2 := .list []) hA (ev_lcNo (i0 := 12) hA S (emo_call (ds := [x, web h st]) hA (G.wc.up (by decide)) (el2 (ev_var (fun _ => pv 5) rfl) (ev_var (fun _ => pv 2) rfl)) tab1) fun H2 s2 i L ds g qn cl vs hL lam kp ra => ?_) (ev_lst (ds := []) ea_nil (Nat.zero_le _)) shp_nil10 shp_nil10) eqv_nil) ?_
  · obtain ⟨okL, raL⟩ := all_W (k := 57) (c := .ref W) (fl := some (partL u)) (bad := x) G.gw (by decide) ⟨by rw [hu]; exact nu, rfl, by rw [hu]⟩ W1 i L ds hL
    exact EB.to (eb_ne (d1 := .tuple [.str "web", .str u]) (d2 := .tuple [.str "web", .str u]) (at_blk hA) (ev_thunkO (k := 57) (at_blk hA) T.d_law_error sc_law_error rfl (.inl rfl) (wd_web T G.er G.pW) okL raL kp ra (al_name (fun _ => pv 12) rfl lam)) (ev_tup (el2 ev_str (ev_var (fun _ => pv 6) rfl))) sh sh) (eqv_pair10 _ _)
  · exact law10_net (o := fun z => if z = 4 then some (.dat (.list odW)) else if z = 5 then some (.dat x) else if z = 6 then some (.dat (.str u)) else o z) (r := r) (h := h) (st := st) (n := n) (ws := ws) T G TB hA S hrow tab tab1 tab2 W1 h9 V1 n5 q
end
end SK


set_option Elab.async false
set_option linter.all false
set_option maxRecDepth 100000
set_option maxHeartbeats 2000000
/-! Skd9: the law of what is refused: its whole text; all promises together. -/
namespace SK
open PySem SW
open L2 hiding Same
open LamX (TabB)
/-- a def that is known with its code object -/
def FunC (K : PySem.W.Frag) (x q : Str) (st : Stmt) (f : Addr) (fd : FuncData) (c : Addr) : Prop := ∃ (oc : Value) (od : Option Addr) (kV doc pm : Value) (an : Option Addr) (ct : Value) (osl : Array (Option Value)),
  fd = PySem.W.fnOf x q (defArgs st) (defBody st) (defScope st) .none kV doc pm an (.ref c) ct ∧ K.lookup f = some ⟨oc, od, .func fd, osl⟩ ∧ PySem.W.codeIn K (.ref c) q = true
def spLaw3 (K : PySem.W.Frag) (t t1 t2 : Addr) : Sp := fun vs H Q _ => ∃ (a : Addr) (ns : List Int), vs = [.ref a] ∧ SqL K H a (ns.map V.int) ∧ ns.length ≤ 63 ∧ (TabF H t ∧ TabF H t1 ∧ TabF H t2) ∧ ∀ H', Q (.bl true) H'
theorem tabF_new {H : Hp} {P : Addr} (h : H P = some (.tbl #[])) : TabF H P := ⟨#[], h, by trivial, fun pos cv e => by cases e⟩
section
variable {P : Program} {w : World} {K : PySem.W.Frag} {mg : Str → Option Value} {base : Heap} {W N B R U t1 t2 : Addr} {cE : Value}
section
variable {f c t r : Addr} {A : Around} {outer : List Env} {s0 : Shared} {Hb H0 : Hp} {o : Nat → Option SD} {Q : VK}
theorem law10_body (T : Tx K mg) (G : Gs10 P w K mg base W N B R U cE t1 t2) (TB : TabB base mg c t) (hA : ∀ i, At (bd10 P w K mg base f (.ref c) A outer s0 Hb i) P w K mg base 59) (S : Sc (bd10 P w K mg base f (.ref c) A outer s0 Hb) nL10 (defScope s_law)) (hrow : RowAt K H0 r) (tab : TabF H0 t) (tab1 : TabF H0 t1) (tab2 : TabF H0 t2) (q : ∀ H', Q (.bl true) H') :
    WS (bd10 P w K mg base f (.ref c) A outer s0 Hb) H0 [o 0, some (.raw (.ref r)), o 2, o 3, o 4, o 5, o 6, o 7, o 8, o 9, o 10, o 11, o 12, o 13, o 14] ((defBody s_law).drop 1) { nx := fun _ H' => Q .non H', rt := Q } := by
  refine ws_two hA (i := 2) (j := 3) (Φ := fun x y => (∃ h st, x = web h st ∧ WebOk h st ∧ h ≤ 9) ∧ ∃ n ws, y = netN n ws ∧ NetV n ws ∧ n ≤ 5) (EP.mono (ep_tup (Ψ := fun ds => ∃ d r, ds = d :: r ∧ (∃ h st, d = web h st ∧ WebOk h st ∧ h ≤ 9) ∧ ∃ d r', r = d :: r' ∧ (∃ n ws, d = netN n ws ∧ NetV n ws ∧ n ≤ 5) ∧ r' = []) (ea_cons (ep_row hA (G.wb.up (by decide)) hrow (fun _ => pv 1) rfl (el1 ev_int) fun ds e => ?_) (ea_cons (ep_row hA (G.nt.up (by decide)) hrow (fun _ => pv 1) rfl (el1 ev_int) fun ds e => ?_) ea_nil)) fun ds ⟨d, r, e, _, d2, r2, e2, _, e3⟩ => ?_) fun d ⟨ds, e, d1, r1, e1, p1, d2, r2, e2, p2, e3⟩ => ?_) S fun x y ⟨⟨h, st, e1, W1, h9⟩, n, ws, e2, V1, n5⟩ => ?_
  · subst e
    refine ⟨rfl, ⟨9, rfl, by decide, by decide⟩, fun d ⟨m, h, st, e, ed, Wk, le⟩ => ?_⟩
    injection e with e
    injection e with e
    subst e
    exact ⟨h, st, ed, Wk, le⟩
  · subst e
    refine ⟨rfl, ⟨5, rfl, by decide, by decide⟩, fun d ⟨m, n, ws, e, ed, V, le⟩ => ?_⟩
    injection e with e
    injection e with e
    exact ⟨n, ws, ed, V, by omega⟩
  · subst e e2 e3
    exact Nat.le_of_lt (small1000 (by show 2 ≤ 1000; decide))
  · subst e1 e2 e3
    exact ⟨d1, d2, e, p1, p2⟩
  subst e1 e2
  exact law10_web (o := o) (r := r) (h := h) (st := st) (n := n) (ws := ws) T G TB hA S hrow tab tab1 tab2 W1 h9 V1 n5 q
end
theorem ok_law10 {f c t : Addr} {fd : FuncData} (F : FunC K "law" "law" s_law f fd c) (T : Tx K mg) (G : Gs10 P w K mg base W N B R U cE t1 t2) (TB : TabB base mg c t) : FnOk P w K mg base CX0 60 f fd ["script"] (spLaw3 K t t1 t2) := by
  obtain ⟨oc, od, kV, doc, pm, an, ct, osl, rfl, lk, hcd⟩ := F
  refine fn_of lk hcd sc_law10 (fun vs H Q E h => ?_) fun A outer s H vs Q E hr hs => ?_
  · obtain ⟨a, ns, rfl, _⟩ := h
    rfl
  obtain ⟨a, ns, rfl, hS, hl, ⟨ht, ht1, ht2⟩, q⟩ := hs
  have hA : ∀ i, At (bd10 P w K mg base f (.ref c) A outer s H i) P w K mg base 59 := fun _ => ⟨rfl, rfl, rfl, rfl, rfl, rfl, hr⟩
  have S : Sc (bd10 P w K mg base f (.ref c) A outer s H) nL10 (defScope s_law) := ⟨sc_law10.nd, fun _ => rfl, fun _ => rfl⟩
  suffices hh : uB (bd10 P w K mg base f (.ref c) A outer s H) (defBody s_law) { nx := fun _ H' => Q .non H', rt := Q } (L2.start nL10 [.ref a]) H by
    obtain ⟨t, p, z⟩ := hh
    exact ⟨t, (p ()).nox, z⟩
  refine wb_cons (fun _ => ps_set (i := 1) sc_law10.nd rfl (by first | exact Or.inl rfl | exact Or.inr rfl) (pe_lst (pa_cons (pv 0) (pa_cons pe_int (pa_cons pe_int (pa_cons pe_int pa_nil)))))) ⟨_, rfl, Nat.le_of_lt (small1000 (by simp only [List.length_cons, List.length_nil]; decide)), fun r hn => ?_⟩
  refine ub_close (r := r) (a := a) (i := 0) (s := 5810) (c := 0) upd_same (by decide) ?_
  have s0 : SW.Same H (upd (upd H r (.lst (rowV a 0 5810 0))) r (RowO r a)) := by rw [upd_upd]; exact same_upd hn
  have hrow : RowAt K (upd (upd H r (.lst (rowV a 0 5810 0))) r (RowO r a)) r := ⟨a, upd_same, ns, s0.seq hS, hl⟩
  have ht0 := s0.tab _ ht
  have ht1 := s0.tab _ ht1
  have ht2 := s0.tab _ ht2
  show uB _ _ _ _ (upd (upd H r (.lst (rowV a 0 5810 0))) r (RowO r a))
  generalize upd (upd H r (.lst (rowV a 0 5810 0))) r (RowO r a) = H0 at hrow ht0 ht1 ht2 ⊢
  refine (law10_body (o := fun n => if n = 0 then some (.raw (.ref a)) else none) T G TB hA S hrow ht0 ht1 ht2 q).run _ H0 (SW.Same.refl H0) ?_
  refine ⟨rfl, fun i => ?_⟩
  rcases i with _ | _ | i
  · rfl
  · rfl
  · show RpO _ _ (List.replicate 13 none)[i]?
    rw [List.getElem?_replicate]
    split <;> trivial
/-- what a head says besides -/
structure TxF10 (K : PySem.W.Frag) (mg : Str → Option Value) (W N B R U : Addr) (cE : Value) : Prop where
  er : ErF K mg W N B R U cE
  eB : ExF K mg "BadNumber" (.ref B)
  eR : ExF K mg "NotPrime" (.ref R)
  eU : ExF K mg "Unlike" (.ref U)
theorem gs10_all {c1 c2 : Addr} (T : Tx K mg) (F : TxF10 K mg W N B R U cE) (D1 : DfC K mg "_law_web_calls" s_law_web_calls ["bad", "good"] c1) (D2 : DfC K mg "_law_net_calls" s_law_net_calls ["bad", "good"] c2) (TB1 : TabB base mg c1 t1) (TB2 : TabB base mg c2 t2) : Gs10 P w K mg base W N B R U cE t1 t2 := by
  have g1 : Gnum P w K mg base := fn_is_number T
  have g2 := fn_is_pair (P := P) (w := w) (base := base) T
  have g3 := fn_ascends (P := P) (w := w) (base := base) T
  have ww := fn_wrong_in_web (P := P) (w := w) (base := base) T g1 g2 (fn_are_steps T g1 g3)
  have wn := fn_wrong_in_net (P := P) (w := w) (base := base) T g1 g2 (fn_are_ways T (fn_is_way T g1 g2) g3)
  have ck : Gchk P w K mg base := fn_check_web T ww
  have cn : Gcn P w K mg base := fn_check_net T wn
  have tk : Gtk P w K mg base := (fn_law_taken (P := P) (w := w) (base := base) T).taken
  obtain ⟨W', pW⟩ := part_BadWeb (P := P) (w := w) (base := base) T
  have e1 := pW.1.mg_
  rw [F.er.mW] at e1
  cases e1
  obtain ⟨N', pN⟩ := part_BadNet (P := P) (w := w) (base := base) T
  have e2 := pN.1.mg_
  rw [F.er.mN] at e2
  cases e2
  have xw : Tck P w K mg base 4 "check_web" (WBad W) := tx_check_web T pW ww
  have xn : Tck P w K mg base 5 "check_net" (NBad N) := tx_check_net T pN wn
  have xno := tx_net_of T xw
  have xcs := tx_count_symmetries T xn
  have xms := tx_multiples T xw
  have xtu := tx_turned T xw
  have x2 := tx_check_two T F.eU cn xn
  have xli := tx_likeness T x2
  have xev := tx_is_even T xn
  have xri := tx_ring T xev
  have gw : GWc P w K mg base (.ref U) (WBad W) := ⟨tx_ways T xw, tx_times T xw, xms, tx_least_multiple T xms, tx_are_multiples T F.eU ck xw, xtu, tx_is_two_way T xtu, xno, tx_keepers T xw, tx_count_plain T xw, tx_is_plain T xno xcs, tx_symmetries T xw, tx_write_web T xw⟩
  have gn : GNc P w K mg base (.ref U) (NBad N) := ⟨xli, tx_are_alike T xli, tx_shows_likeness T x2, xev, xcs, xri, tx_shows_ring T xri, tx_steps_along T xn⟩
  exact ⟨tk, fn_law_pick T tk, fn_law_web T tk, fn_law_net T tk, fn_law_divisor T, fn_is_web T ww, fn_is_net T wn, F.er, pW, pN, fn_law_web_calls D1 TB1, fn_law_net_calls D2 TB2, gw, gn, tx_times_no T F.eB ck g1, tx_factors T (tx_check_number T F.eB g1), (fx_symmetries T ck (fx_check_prime T F.eR)).ofR⟩
theorem ok10 {f c t c1 c2 : Addr} {fd : FuncData} (F : FunC K "law" "law" s_law f fd c) (T : Tx K mg) (F10 : TxF10 K mg W N B R U cE) (TB : TabB base mg c t) (D1 : DfC K mg "_law_web_calls" s_law_web_calls ["bad", "good"] c1) (D2 : DfC K mg "_law_net_calls" s_law_net_calls ["bad", "good"] c2) (TB1 : TabB base mg c1 t1) (TB2 : TabB base mg c2 t2) : FnOk P w K mg base CX0 60 f fd ["script"] (spLaw3 K t t1 t2) :=
  ok_law10 F T (gs10_all T F10 D1 D2 TB1 TB2) TB
end
end SK


set_option Elab.async false
set_option linter.all false
set_option maxRecDepth 100000
set_option maxHeartbeats 0
namespace SK
open PySem SW PySem.Spec PyProof.Rows
open L2 hiding Same
open LamX (TabB)
theorem funC_of {K : PySem.W.Frag} {x : Str} {st : Stmt} {fd : FuncData} (F : FunD K x x (defArgs st) (defBody st) (defScope st) [] [] (He.fAd K (x, none)) fd) : FunC K x x st (He.fAd K (x, none)) fd (He.codeOf K (x, none)) := by
  obtain ⟨oc, od, dV, kV, doc, pm, an, cdv, ct, osl, rfl, lk, hcd, hD, hK⟩ := F.ex
  rcases hD with ⟨_, rfl⟩ | ⟨e, _⟩
  · obtain ⟨c, rfl⟩ := He.codeIn_ref hcd
    rw [He.codeOf_eq lk (c := c) rfl]
    exact ⟨oc, od, kV, doc, pm, an, ct, osl, rfl, lk, hcd⟩
  · exact absurd rfl e
theorem facts {P : Program} {w : World} {K : PySem.W.Frag} {h : Heap} {mg : Str → Option Value} {f : Addr} (X : K.In h) (G : h.Ns mainGlobals mg) (hfa : mg ("law" : Str) = some (.ref f)) (c : He.SaysX faL fnL [] tfL exL w h K) :
    ∃ fd : FuncData, (∀ (s : Shared) (v : Value), BindsTo s fd ⟨[v], []⟩ [("script", v)]) ∧ ∀ base : Heap, K.In base → base.Ns mainGlobals mg → TabB base mg (He.cT K ("law", none)).1 (He.cT K ("law", none)).2 → TabB base mg (He.cT K ("_law_web_calls", none)).1 (He.cT K ("_law_web_calls", none)).2 → TabB base mg (He.cT K ("_law_net_calls", none)).1 (He.cT K ("_law_net_calls", none)).2 → FnOk P w K mg base CX0 60 f fd ["script"] (spLaw3 K (He.cT K ("law", none)).2 (He.cT K ("_law_web_calls", none)).2 (He.cT K ("_law_net_calls", none)).2) := by
  have cd : He.SaysD faL fnL K := congrArg (fun z : He.AlT => z.1) c.t
  obtain ⟨fd0, F0⟩ := cd.def_ 0 (d := dd "is_number" 10) rfl
  obtain ⟨fd1, F1⟩ := cd.def_ 1 (d := dd "check_number" 11) rfl
  obtain ⟨fd2, F2⟩ := cd.def_ 2 (d := dd "check_prime" 12) rfl
  obtain ⟨fd3, F3⟩ := cd.def_ 3 (d := dd "is_pair" 13) rfl
  obtain ⟨fd4, F4⟩ := cd.def_ 4 (d := dd "is_order" 14) rfl
  obtain ⟨fd5, F5⟩ := cd.def_ 5 (d := dd "wrong_in_web" 15) rfl
  obtain ⟨fd6, F6⟩ := cd.def_ 6 (d := dd "check_web" 16) rfl
  obtain ⟨fd7, F7⟩ := cd.def_ 7 (d := dd "wrong_in_net" 17) rfl
  obtain ⟨fd8, F8⟩ := cd.def_ 8 (d := dd "check_net" 18) rfl
  obtain ⟨fd9, F9⟩ := cd.def_ 9 (d := dd "_are_steps" 19) rfl
  obtain ⟨fd10, F10⟩ := cd.def_ 10 (d := dd "_are_ways" 20) rfl
  obtain ⟨fd11, F11⟩ := cd.def_ 11 (d := dd "_is_way" 21) rfl
  obtain ⟨fd12, F12⟩ := cd.def_ 12 (d := dd "_ascends" 22) rfl
  obtain ⟨fd13, F13⟩ := cd.def_ 13 (d := dd "is_web" 24) rfl
  obtain ⟨fd14, F14⟩ := cd.def_ 14 (d := dd "ways" 25) rfl
  obtain ⟨fd15, F15⟩ := cd.def_ 15 (d := dd "factors" 26) rfl
  obtain ⟨fd16, F16⟩ := cd.def_ 16 (d := dd "times" 27) rfl
  obtain ⟨fd17, F17⟩ := cd.def_ 17 (d := dd "multiples" 28) rfl
  obtain ⟨fd18, F18⟩ := cd.def_ 18 (d := dd "least_multiple" 29) rfl
  obtain ⟨fd19, F19⟩ := cd.def_ 19 (d := dd "are_multiples" 30) rfl
  obtain ⟨fd20, F20⟩ := cd.def_ 20 (d := dd "turned" 31) rfl
  obtain ⟨fd21, F21⟩ := cd.def_ 21 (d := dd "is_two_way" 32) rfl
  obtain ⟨fd22, F22⟩ := cd.def_ 22 (d := dd "_multiplied" 33) rfl
  obtain ⟨fd23, F23⟩ := cd.def_ 23 (d := dd "is_net" 35) rfl
  obtain ⟨fd24, F24⟩ := cd.def_ 24 (d := dd "net_of" 36) rfl
  obtain ⟨fd25, F25⟩ := cd.def_ 25 (d := dd "likeness" 37) rfl
  obtain ⟨fd26, F26⟩ := cd.def_ 26 (d := dd "are_alike" 38) rfl
  obtain ⟨fd27, F27⟩ := cd.def_ 27 (d := dd "shows_likeness" 39) rfl
  obtain ⟨fd28, F28⟩ := cd.def_ 28 (d := dd "count_symmetries" 40) rfl
  obtain ⟨fd29, F29⟩ := cd.def_ 29 (d := dd "is_even" 41) rfl
  obtain ⟨fd30, F30⟩ := cd.def_ 30 (d := dd "join_table" 42) rfl
  obtain ⟨fd31, F31⟩ := cd.def_ 31 (d := dd "_check_two" 43) rfl
  obtain ⟨fd32, F32⟩ := cd.def_ 32 (d := dd "_led" 44) rfl
  obtain ⟨fd33, F33⟩ := cd.def_ 33 (d := dd "_first_rooms" 45) rfl
  obtain ⟨fd34, F34⟩ := cd.def_ 34 (d := dd "_rooms_left" 46) rfl
  obtain ⟨fd35, F35⟩ := cd.def_ 35 (d := dd "_places" 47) rfl
  obtain ⟨fd36, F36⟩ := cd.def_ 36 (d := dd "_unlike_places" 48) rfl
  obtain ⟨fd37, F37⟩ := cd.def_ 37 (d := dd "_are_twins" 49) rfl
  obtain ⟨fd38, F38⟩ := cd.def_ 38 (d := dd "_count_reached" 50) rfl
  obtain ⟨fd39, F39⟩ := cd.def_ 39 (d := dd "keepers" 52) rfl
  obtain ⟨fd40, F40⟩ := cd.def_ 40 (d := dd "count_plain" 53) rfl
  obtain ⟨fd41, F41⟩ := cd.def_ 41 (d := dd "is_plain" 54) rfl
  obtain ⟨fd42, F42⟩ := cd.def_ 42 (d := dd "symmetries" 55) rfl
  obtain ⟨fd43, F43⟩ := cd.def_ 43 (d := dd "ring" 57) rfl
  obtain ⟨fd44, F44⟩ := cd.def_ 44 (d := dd "shows_ring" 58) rfl
  obtain ⟨fd45, F45⟩ := cd.def_ 45 (d := dd "steps_along" 59) rfl
  obtain ⟨fd46, F46⟩ := cd.def_ 46 (d := dd "_ways_along" 60) rfl
  obtain ⟨fd47, F47⟩ := cd.def_ 47 (d := dd "_completed" 61) rfl
  obtain ⟨fd48, F48⟩ := cd.def_ 48 (d := dd "_last_fits" 62) rfl
  obtain ⟨fd49, F49⟩ := cd.def_ 49 (d := dd "write_web" 64) rfl
  obtain ⟨fd50, F50⟩ := cd.def_ 50 (d := dd "_law_taken" 66) rfl
  obtain ⟨fd51, F51⟩ := cd.def_ 51 (d := dd "_law_pick" 67) rfl
  obtain ⟨fd52, F52⟩ := cd.def_ 52 (d := dd "_law_divisor" 68) rfl
  obtain ⟨fd53, F53⟩ := cd.def_ 53 (d := dd "_law_web" 69) rfl
  obtain ⟨fd54, F54⟩ := cd.def_ 54 (d := dd "_law_net" 70) rfl
  obtain ⟨fd55, F55⟩ := cd.def_ 55 (d := dd "_law_error" 71) rfl
  obtain ⟨fd56, F56⟩ := cd.def_ 56 (d := dd "_law_web_calls" 72) rfl
  obtain ⟨fd57, F57⟩ := cd.def_ 57 (d := dd "_law_net_calls" 73) rfl
  obtain ⟨fd58, F58⟩ := cd.def_ 58 (d := dd "law" 74) rfl
  obtain ⟨fdI0, FI0⟩ := cd.def_ 59 (d := ddM "BadWeb" "__init__" "BadWeb.__init__" (clsAt (top 3) 0)) rfl
  obtain ⟨fdI1, FI1⟩ := cd.def_ 60 (d := ddM "BadNet" "__init__" "BadNet.__init__" (clsAt (top 4) 0)) rfl
  have T : Tx K mg := {
    d_is_number := df_of (st := top 10) (ps := ["value", "low", "high"]) F0 (He.glo_ok X G (cd.fact 0 (f := .glo "is_number") rfl)) fun _ _ _ _ _ _ us hl => match us, hl with | [_, _, _], _ => rfl,
    d_check_number := df_of (st := top 11) (ps := ["value", "low", "high"]) F1 (He.glo_ok X G (cd.fact 1 (f := .glo "check_number") rfl)) fun _ _ _ _ _ _ us hl => match us, hl with | [_, _, _], _ => rfl,
    d_check_prime := df_of (st := top 12) (ps := ["number"]) F2 (He.glo_ok X G (cd.fact 2 (f := .glo "check_prime") rfl)) fun _ _ _ _ _ _ us hl => match us, hl with | [_], _ => rfl,
    d_is_pair := df_of (st := top 13) (ps := ["value"]) F3 (He.glo_ok X G (cd.fact 3 (f := .glo "is_pair") rfl)) fun _ _ _ _ _ _ us hl => match us, hl with | [_], _ => rfl,
    d_is_order := df_of (st := top 14) (ps := ["value", "halls"]) F4 (He.glo_ok X G (cd.fact 4 (f := .glo "is_order") rfl)) fun _ _ _ _ _ _ us hl => match us, hl with | [_, _], _ => rfl,
    d_wrong_in_web := df_of (st := top 15) (ps := ["value"]) F5 (He.glo_ok X G (cd.fact 5 (f := .glo "wrong_in_web") rfl)) fun _ _ _ _ _ _ us hl => match us, hl with | [_], _ => rfl,
    d_check_web := df_of (st := top 16) (ps := ["value"]) F6 (He.glo_ok X G (cd.fact 6 (f := .glo "check_web") rfl)) fun _ _ _ _ _ _ us hl => match us, hl with | [_], _ => rfl,
    d_wrong_in_net := df_of (st := top 17) (ps := ["value"]) F7 (He.glo_ok X G (cd.fact 7 (f := .glo "wrong_in_net") rfl)) fun _ _ _ _ _ _ us hl => match us, hl with | [_], _ => rfl,
    d_check_net := df_of (st := top 18) (ps := ["value"]) F8 (He.glo_ok X G (cd.fact 8 (f := .glo "check_net") rfl)) fun _ _ _ _ _ _ us hl => match us, hl with | [_], _ => rfl,
    d_are_steps := df_of (st := top 19) (ps := ["value", "halls"]) F9 (He.glo_ok X G (cd.fact 9 (f := .glo "_are_steps") rfl)) fun _ _ _ _ _ _ us hl => match us, hl with | [_, _], _ => rfl,
    d_are_ways := df_of (st := top 20) (ps := ["value", "halls"]) F10 (He.glo_ok X G (cd.fact 10 (f := .glo "_are_ways") rfl)) fun _ _ _ _ _ _ us hl => match us, hl with | [_, _], _ => rfl,
    d_is_way := df_of (st := top 21) (ps := ["value", "halls"]) F11 (He.glo_ok X G (cd.fact 11 (f := .glo "_is_way") rfl)) fun _ _ _ _ _ _ us hl => match us, hl with | [_, _], _ => rfl,
    d_ascends := df_of (st := top 22) (ps := ["row"]) F12 (He.glo_ok X G (cd.fact 12 (f := .glo "_ascends") rfl)) fun _ _ _ _ _ _ us hl => match us, hl with | [_], _ => rfl,
    d_is_web := df_of (st := top 24) (ps := ["value"]) F13 (He.glo_ok X G (cd.fact 13 (f := .glo "is_web") rfl)) fun _ _ _ _ _ _ us hl => match us, hl with | [_], _ => rfl,
    d_ways := df_of (st := top 25) (ps := ["web"]) F14 (He.glo_ok X G (cd.fact 14 (f := .glo "ways") rfl)) fun _ _ _ _ _ _ us hl => match us, hl with | [_], _ => rfl,
    d_factors := df_of (st := top 26) (ps := ["halls"]) F15 (He.glo_ok X G (cd.fact 15 (f := .glo "factors") rfl)) fun _ _ _ _ _ _ us hl => match us, hl with | [_], _ => rfl,
    d_times := df_of (st := top 27) (ps := ["web", "factor"]) F16 (He.glo_ok X G (cd.fact 16 (f := .glo "times") rfl)) fun _ _ _ _ _ _ us hl => match us, hl with | [_, _], _ => rfl,
    d_multiples := df_of (st := top 28) (ps := ["web"]) F17 (He.glo_ok X G (cd.fact 17 (f := .glo "multiples") rfl)) fun _ _ _ _ _ _ us hl => match us, hl with | [_], _ => rfl,
    d_least_multiple := df_of (st := top 29) (ps := ["web"]) F18 (He.glo_ok X G (cd.fact 18 (f := .glo "least_multiple") rfl)) fun _ _ _ _ _ _ us hl => match us, hl with | [_], _ => rfl,
    d_are_multiples := df_of (st := top 30) (ps := ["one", "other"]) F19 (He.glo_ok X G (cd.fact 19 (f := .glo "are_multiples") rfl)) fun _ _ _ _ _ _ us hl => match us, hl with | [_, _], _ => rfl,
    d_turned := df_of (st := top 31) (ps := ["web"]) F20 (He.glo_ok X G (cd.fact 20 (f := .glo "turned") rfl)) fun _ _ _ _ _ _ us hl => match us, hl with | [_], _ => rfl,
    d_is_two_way := df_of (st := top 32) (ps := ["web"]) F21 (He.glo_ok X G (cd.fact 21 (f := .glo "is_two_way") rfl)) fun _ _ _ _ _ _ us hl => match us, hl with | [_], _ => rfl,
    d_multiplied := df_of (st := top 33) (ps := ["web", "factor"]) F22 (He.glo_ok X G (cd.fact 22 (f := .glo "_multiplied") rfl)) fun _ _ _ _ _ _ us hl => match us, hl with | [_, _], _ => rfl,
    d_is_net := df_of (st := top 35) (ps := ["value"]) F23 (He.glo_ok X G (cd.fact 23 (f := .glo "is_net") rfl)) fun _ _ _ _ _ _ us hl => match us, hl with | [_], _ => rfl,
    d_net_of := df_of (st := top 36) (ps := ["web"]) F24 (He.glo_ok X G (cd.fact 24 (f := .glo "net_of") rfl)) fun _ _ _ _ _ _ us hl => match us, hl with | [_], _ => rfl,
    d_likeness := df_of (st := top 37) (ps := ["one", "other"]) F25 (He.glo_ok X G (cd.fact 25 (f := .glo "likeness") rfl)) fun _ _ _ _ _ _ us hl => match us, hl with | [_, _], _ => rfl,
    d_are_alike := df_of (st := top 38) (ps := ["one", "other"]) F26 (He.glo_ok X G (cd.fact 26 (f := .glo "are_alike") rfl)) fun _ _ _ _ _ _ us hl => match us, hl with | [_, _], _ => rfl,
    d_shows_likeness := df_of (st := top 39) (ps := ["one", "other", "value"]) F27 (He.glo_ok X G (cd.fact 27 (f := .glo "shows_likeness") rfl)) fun _ _ _ _ _ _ us hl => match us, hl with | [_, _, _], _ => rfl,
    d_count_symmetries := df_of (st := top 40) (ps := ["net"]) F28 (He.glo_ok X G (cd.fact 28 (f := .glo "count_symmetries") rfl)) fun _ _ _ _ _ _ us hl => match us, hl with | [_], _ => rfl,
    d_is_even := df_of (st := top 41) (ps := ["net"]) F29 (He.glo_ok X G (cd.fact 29 (f := .glo "is_even") rfl)) fun _ _ _ _ _ _ us hl => match us, hl with | [_], _ => rfl,
    d_join_table := df_of (st := top 42) (ps := ["net"]) F30 (He.glo_ok X G (cd.fact 30 (f := .glo "join_table") rfl)) fun _ _ _ _ _ _ us hl => match us, hl with | [_], _ => rfl,
    d_check_two := df_of (st := top 43) (ps := ["one", "other"]) F31 (He.glo_ok X G (cd.fact 31 (f := .glo "_check_two") rfl)) fun _ _ _ _ _ _ us hl => match us, hl with | [_, _], _ => rfl,
    d_led := df_of (st := top 44) (ps := ["net", "order"]) F32 (He.glo_ok X G (cd.fact 32 (f := .glo "_led") rfl)) fun _ _ _ _ _ _ us hl => match us, hl with | [_, _], _ => rfl,
    d_first_rooms := df_of (st := top 45) (ps := ["here", "there"]) F33 (He.glo_ok X G (cd.fact 33 (f := .glo "_first_rooms") rfl)) fun _ _ _ _ _ _ us hl => match us, hl with | [_, _], _ => rfl,
    d_rooms_left := df_of (st := top 46) (ps := ["here", "there", "rooms", "hall", "place"]) F34 (He.glo_ok X G (cd.fact 34 (f := .glo "_rooms_left") rfl)) fun _ _ _ _ _ _ us hl => match us, hl with | [_, _, _, _, _], _ => rfl,
    d_places := df_of (st := top 47) (ps := ["here", "there", "rooms"]) F35 (He.glo_ok X G (cd.fact 35 (f := .glo "_places") rfl)) fun _ _ _ _ _ _ us hl => match us, hl with | [_, _, _], _ => rfl,
    d_unlike_places := df_of (st := top 48) (ps := ["table", "places"]) F36 (He.glo_ok X G (cd.fact 36 (f := .glo "_unlike_places") rfl)) fun _ _ _ _ _ _ us hl => match us, hl with | [_, _], _ => rfl,
    d_are_twins := df_of (st := top 49) (ps := ["table", "one", "other"]) F37 (He.glo_ok X G (cd.fact 37 (f := .glo "_are_twins") rfl)) fun _ _ _ _ _ _ us hl => match us, hl with | [_, _, _], _ => rfl,
    d_count_reached := df_of (st := top 50) (ps := ["table", "rooms", "hall"]) F38 (He.glo_ok X G (cd.fact 38 (f := .glo "_count_reached") rfl)) fun _ _ _ _ _ _ us hl => match us, hl with | [_, _, _], _ => rfl,
    d_keepers := df_of (st := top 52) (ps := ["web"]) F39 (He.glo_ok X G (cd.fact 39 (f := .glo "keepers") rfl)) fun _ _ _ _ _ _ us hl => match us, hl with | [_], _ => rfl,
    d_count_plain := df_of (st := top 53) (ps := ["web"]) F40 (He.glo_ok X G (cd.fact 40 (f := .glo "count_plain") rfl)) fun _ _ _ _ _ _ us hl => match us, hl with | [_], _ => rfl,
    d_is_plain := df_of (st := top 54) (ps := ["web"]) F41 (He.glo_ok X G (cd.fact 41 (f := .glo "is_plain") rfl)) fun _ _ _ _ _ _ us hl => match us, hl with | [_], _ => rfl,
    d_symmetries := df_of (st := top 55) (ps := ["web"]) F42 (He.glo_ok X G (cd.fact 42 (f := .glo "symmetries") rfl)) fun _ _ _ _ _ _ us hl => match us, hl with | [_], _ => rfl,
    d_ring := df_of (st := top 57) (ps := ["net"]) F43 (He.glo_ok X G (cd.fact 43 (f := .glo "ring") rfl)) fun _ _ _ _ _ _ us hl => match us, hl with | [_], _ => rfl,
    d_shows_ring := df_of (st := top 58) (ps := ["net", "value"]) F44 (He.glo_ok X G (cd.fact 44 (f := .glo "shows_ring") rfl)) fun _ _ _ _ _ _ us hl => match us, hl with | [_, _], _ => rfl,
    d_steps_along := df_of (st := top 59) (ps := ["net", "order"]) F45 (He.glo_ok X G (cd.fact 45 (f := .glo "steps_along") rfl)) fun _ _ _ _ _ _ us hl => match us, hl with | [_, _], _ => rfl,
    d_ways_along := df_of (st := top 60) (ps := ["order", "steps"]) F46 (He.glo_ok X G (cd.fact 46 (f := .glo "_ways_along") rfl)) fun _ _ _ _ _ _ us hl => match us, hl with | [_, _], _ => rfl,
    d_completed := df_of (st := top 61) (ps := ["table", "order"]) F47 (He.glo_ok X G (cd.fact 47 (f := .glo "_completed") rfl)) fun _ _ _ _ _ _ us hl => match us, hl with | [_, _], _ => rfl,
    d_last_fits := df_of (st := top 62) (ps := ["table", "order"]) F48 (He.glo_ok X G (cd.fact 48 (f := .glo "_last_fits") rfl)) fun _ _ _ _ _ _ us hl => match us, hl with | [_, _], _ => rfl,
    d_write_web := df_of (st := top 64) (ps := ["web"]) F49 (He.glo_ok X G (cd.fact 49 (f := .glo "write_web") rfl)) fun _ _ _ _ _ _ us hl => match us, hl with | [_], _ => rfl,
    d_law_taken := df_of (st := top 66) (ps := ["row", "many"]) F50 (He.glo_ok X G (cd.fact 50 (f := .glo "_law_taken") rfl)) fun _ _ _ _ _ _ us hl => match us, hl with | [_, _], _ => rfl,
    d_law_pick := df_of (st := top 67) (ps := ["row", "things"]) F51 (He.glo_ok X G (cd.fact 51 (f := .glo "_law_pick") rfl)) fun _ _ _ _ _ _ us hl => match us, hl with | [_, _], _ => rfl,
    d_law_divisor := df_of (st := top 68) (ps := ["one", "other"]) F52 (He.glo_ok X G (cd.fact 52 (f := .glo "_law_divisor") rfl)) fun _ _ _ _ _ _ us hl => match us, hl with | [_, _], _ => rfl,
    d_law_web := df_of (st := top 69) (ps := ["row", "most"]) F53 (He.glo_ok X G (cd.fact 53 (f := .glo "_law_web") rfl)) fun _ _ _ _ _ _ us hl => match us, hl with | [_, _], _ => rfl,
    d_law_net := df_of (st := top 70) (ps := ["row", "most"]) F54 (He.glo_ok X G (cd.fact 54 (f := .glo "_law_net") rfl)) fun _ _ _ _ _ _ us hl => match us, hl with | [_, _], _ => rfl,
    d_law_error := df_of (st := top 71) (ps := ["work"]) F55 (He.glo_ok X G (cd.fact 55 (f := .glo "_law_error") rfl)) fun _ _ _ _ _ _ us hl => match us, hl with | [_], _ => rfl,
    d_law_web_calls := df_of (st := top 72) (ps := ["bad", "good"]) F56 (He.glo_ok X G (cd.fact 56 (f := .glo "_law_web_calls") rfl)) fun _ _ _ _ _ _ us hl => match us, hl with | [_, _], _ => rfl,
    d_law_net_calls := df_of (st := top 73) (ps := ["bad", "good"]) F57 (He.glo_ok X G (cd.fact 57 (f := .glo "_law_net_calls") rfl)) fun _ _ _ _ _ _ us hl => match us, hl with | [_, _], _ => rfl,
    b_isinstance := He.free_ok X G (cd.fact 59 (f := .free "isinstance") rfl),
    b_int := He.free_ok X G (cd.fact 60 (f := .free "int") rfl),
    b_bool := He.free_ok X G (cd.fact 61 (f := .free "bool") rfl),
    b_any := He.free_ok X G (cd.fact 62 (f := .free "any") rfl),
    b_range := He.free_ok X G (cd.fact 63 (f := .free "range") rfl),
    b_tuple := He.free_ok X G (cd.fact 64 (f := .free "tuple") rfl),
    b_len := He.free_ok X G (cd.fact 65 (f := .free "len") rfl),
    b_all := He.free_ok X G (cd.fact 66 (f := .free "all") rfl),
    b_set := He.free_ok X G (cd.fact 67 (f := .free "set") rfl),
    b_zip := He.free_ok X G (cd.fact 68 (f := .free "zip") rfl),
    b_sorted := He.free_ok X G (cd.fact 69 (f := .free "sorted") rfl),
    b_min := He.free_ok X G (cd.fact 70 (f := .free "min") rfl),
    b_str := He.free_ok X G (cd.fact 71 (f := .free "str") rfl),
    b_max := He.free_ok X G (cd.fact 72 (f := .free "max") rfl),
    c_most := He.int_ok X G (cd.fact 73 (f := .int "MOST_HALLS" 13) rfl),
    b_gcd := PySem.W.mg_of X G (He.eqO_ok (Bool.and_eq_true_iff.mp ((Bool.and_eq_true_iff.mp c.more).1)).1),
    i_BadWeb := ini_of (st := clsAt (top 3) 0) (ps := ["self", "part"]) FI0 (He.glo_ok X G (cd.fact 77 (f := .glo "BadWeb") rfl)) ((Bool.and_eq_true_iff.mp (Bool.and_eq_true_iff.mp c.more).2).1) fun _ _ _ _ _ _ us hl => match us, hl with | [_, _], _ => rfl,
    i_BadNet := ini_of (st := clsAt (top 4) 0) (ps := ["self", "part"]) FI1 (He.glo_ok X G (cd.fact 78 (f := .glo "BadNet") rfl)) ((Bool.and_eq_true_iff.mp (Bool.and_eq_true_iff.mp (Bool.and_eq_true_iff.mp c.more).2).2).1) fun _ _ _ _ _ _ us hl => match us, hl with | [_, _], _ => rfl,
    x_WebError := ⟨.ref (He.ga K "WebError"), ⟨⟨He.ga K "WebError", He.veBase, _, _, _, rfl, PySem.F.excBase_ValueError, (He.exc_ok (cd.fact 75 (f := .exc "WebError") rfl)).1, He.glo_ok X G (cd.fact 74 (f := .glo "WebError") rfl), (He.exc_ok (cd.fact 75 (f := .exc "WebError") rfl)).2.1, (He.exc_ok (cd.fact 75 (f := .exc "WebError") rfl)).2.2.1, (He.exc_ok (cd.fact 75 (f := .exc "WebError") rfl)).2.2.2⟩, He.exm_ok (cd.fact 76 (f := .exm "WebError" "WebError" true) rfl)⟩⟩ }
  have eI := Bool.and_eq_true_iff.mp ((Bool.and_eq_true_iff.mp (Bool.and_eq_true_iff.mp (Bool.and_eq_true_iff.mp c.more).2).2).2)
  obtain ⟨i1, i2, i3, i4⟩ := isB_ok eI.1
  have F10 : TxF10 K mg (He.ga K "BadWeb") (He.ga K "BadNet") (He.ga K "BadNumber") (He.ga K "NotPrime") (He.ga K "Unlike") (.ref (He.ga K "WebError")) := {
    er := ⟨He.glo_ok X G (cd.fact 74 (f := .glo "WebError") rfl), He.free_ok X G (cd.fact 79 (f := .free "ValueError") rfl), He.glo_ok X G (cd.fact 77 (f := .glo "BadWeb") rfl), He.glo_ok X G (cd.fact 78 (f := .glo "BadNet") rfl), He.glo_ok X G (cd.fact 80 (f := .glo "BadNumber") rfl), He.glo_ok X G (cd.fact 83 (f := .glo "NotPrime") rfl), He.glo_ok X G (cd.fact 86 (f := .glo "Unlike") rfl), i1, i2, i3, of_decide_eq_true eI.2, i4⟩,
    eB := ⟨⟨He.ga K "BadNumber", He.veBase, _, _, _, rfl, PySem.F.excBase_ValueError, (He.exc_ok (cd.fact 81 (f := .exc "BadNumber") rfl)).1, He.glo_ok X G (cd.fact 80 (f := .glo "BadNumber") rfl), (He.exc_ok (cd.fact 81 (f := .exc "BadNumber") rfl)).2.1, (He.exc_ok (cd.fact 81 (f := .exc "BadNumber") rfl)).2.2.1, (He.exc_ok (cd.fact 81 (f := .exc "BadNumber") rfl)).2.2.2⟩, He.exm_ok (cd.fact 82 (f := .exm "BadNumber" "BadNumber" true) rfl)⟩,
    eR := ⟨⟨He.ga K "NotPrime", He.veBase, _, _, _, rfl, PySem.F.excBase_ValueError, (He.exc_ok (cd.fact 84 (f := .exc "NotPrime") rfl)).1, He.glo_ok X G (cd.fact 83 (f := .glo "NotPrime") rfl), (He.exc_ok (cd.fact 84 (f := .exc "NotPrime") rfl)).2.1, (He.exc_ok (cd.fact 84 (f := .exc "NotPrime") rfl)).2.2.1, (He.exc_ok (cd.fact 84 (f := .exc "NotPrime") rfl)).2.2.2⟩, He.exm_ok (cd.fact 85 (f := .exm "NotPrime" "NotPrime" true) rfl)⟩,
    eU := ⟨⟨He.ga K "Unlike", He.veBase, _, _, _, rfl, PySem.F.excBase_ValueError, (He.exc_ok (cd.fact 87 (f := .exc "Unlike") rfl)).1, He.glo_ok X G (cd.fact 86 (f := .glo "Unlike") rfl), (He.exc_ok (cd.fact 87 (f := .exc "Unlike") rfl)).2.1, (He.exc_ok (cd.fact 87 (f := .exc "Unlike") rfl)).2.2.1, (He.exc_ok (cd.fact 87 (f := .exc "Unlike") rfl)).2.2.2⟩, He.exm_ok (cd.fact 88 (f := .exm "Unlike" "Unlike" true) rfl)⟩ }
  have D1 := dfc_of (mg := mg) (st := top 72) (ps := ["bad", "good"]) F56 (He.glo_ok X G (cd.fact 56 (f := .glo "_law_web_calls") rfl)) fun _ _ _ _ _ _ us hl => match us, hl with | [_, _], _ => rfl
  have D2 := dfc_of (mg := mg) (st := top 73) (ps := ["bad", "good"]) F57 (He.glo_ok X G (cd.fact 57 (f := .glo "_law_net_calls") rfl)) fun _ _ _ _ _ _ us hl => match us, hl with | [_, _], _ => rfl
  have e := hfa.symm.trans (He.glo_ok X G (cd.fact 58 (f := .glo "law") rfl))
  cases e
  have b := FunD.bindsA (ps := ["script"]) F58 fun _ _ _ _ _ _ us hl => match us, hl with | [_], _ => rfl
  exact ⟨fd58, fun s v => b s [v] rfl, fun base _ _ TB TB1 TB2 => ok10 (funC_of F58) T F10 TB D1 D2 TB1 TB2⟩
end SK
open PySem PySem.W PySem.Calls PyProof.Rows in
set_option maxRecDepth 100000 in
set_option maxHeartbeats 0 in
theorem PySem.Challenge.cw_stepwebs_k10_all_refused_holds : PySem.Challenge.rw_stepwebs_k10_all_refused.Holds := by
  w_on; o_law
  refine HandSHeadRun.head_imp (r := OpenLaw.row PySem.Challenge.rw_stepwebs_k10_all_refused) (q := view (OpenLaw.row PySem.Challenge.rw_stepwebs_k10_all_refused).prog [0, 74]) (H := SK.hk) (ob := SK.ob) (M := 20000) (loose := SK.looseL) (d := HandSHeadRun.topDef (OpenLaw.row PySem.Challenge.rw_stepwebs_k10_all_refused).prog 74) (kwd := []) SK.ob_eq
    SK.run (by kernel_rfl) (by kernel_rfl) (by kernel_rfl) (by rfl) (by first | assumption | decide +kernel) (by decide +kernel) ⟨rfl, rfl, rfl, rfl, rfl, by decide +kernel⟩ ?hw ?hc
  case hw => w_witness2
  case hc =>
    refine LamX.walk_ofTsE (l := PySem.Challenge.rw_stepwebs_k10_all_refused) (n := 63) (k := 60) (x := "script") (CX := fun _ => L2.CX0) rfl (by decide) (by kernel_rfl) ⟨rfl, by decide, by decide⟩ ?F (fun _ _ _ _ _ z => z)
    intro w mg fa h Y G hmg0
    obtain ⟨K, KX, c⟩ := Y
    have hmg : mg ("law" : PySem.Str) = some (.ref fa) := by
      have e : (HandSHeadRun.topDef (OpenLaw.row PySem.Challenge.rw_stepwebs_k10_all_refused).prog 74).name = ("law" : PySem.Str) := by kernel_rfl
      rw [← e]
      exact hmg0
    obtain ⟨fd, hb, hF⟩ := SK.facts (P := (PySem.Challenge.rw_stepwebs_k10_all_refused).prog) (w := w) KX G hmg c
    have m0 : (("law", none) : He.Defn) ∈ SK.tfL := List.mem_cons_self
    have m1 : (("_law_web_calls", none) : He.Defn) ∈ SK.tfL := List.mem_cons_of_mem _ (List.mem_cons_self)
    have m2 : (("_law_net_calls", none) : He.Defn) ∈ SK.tfL := List.mem_cons_of_mem _ (List.mem_cons_of_mem _ (List.mem_cons_self))
    have ms : ∀ p ∈ [He.cT K ("law", none), He.cT K ("_law_web_calls", none), He.cT K ("_law_net_calls", none)], ∃ d ∈ SK.tfL, p = He.cT K d := fun p hp => by
      simp only [List.mem_cons, List.not_mem_nil, or_false] at hp
      rcases hp with rfl | rfl | rfl
      · exact ⟨_, m0, rfl⟩
      · exact ⟨_, m1, rfl⟩
      · exact ⟨_, m2, rfl⟩
    refine ⟨K, KX, fd, [He.cT K ("law", none), He.cT K ("_law_web_calls", none), He.cT K ("_law_net_calls", none)], SK.spLaw3 K (He.cT K ("law", none)).2 (He.cT K ("_law_web_calls", none)).2 (He.cT K ("_law_net_calls", none)).2, fun p hp => ?_, fun p hp => ?_, fun p hp => ?_, hb, fun H a ns hl _ hT hS => ⟨a, ns, rfl, hS, hl, ⟨SK.tabF_new (hT _ List.mem_cons_self), SK.tabF_new (hT _ (List.mem_cons_of_mem _ List.mem_cons_self)), SK.tabF_new (hT _ (List.mem_cons_of_mem _ (List.mem_cons_of_mem _ List.mem_cons_self)))⟩, fun _ => rfl⟩, fun base h1 h2 h3 => hF base h1 h2 (h3 _ List.mem_cons_self) (h3 _ (List.mem_cons_of_mem _ List.mem_cons_self)) (h3 _ (List.mem_cons_of_mem _ (List.mem_cons_of_mem _ List.mem_cons_self)))⟩
    · obtain ⟨d, md, rfl⟩ := ms p hp; exact c.empty _ md
    · obtain ⟨d, md, rfl⟩ := ms p hp; exact c.out _ md
    · obtain ⟨d, md, rfl⟩ := ms p hp; exact PySem.W.codeHd_of_K KX (c.hd _ md)

