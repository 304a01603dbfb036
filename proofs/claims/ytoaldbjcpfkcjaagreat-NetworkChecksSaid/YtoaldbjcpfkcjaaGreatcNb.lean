/- Ways, their stops, joints and groups; the forest; labels. Plain mathematics. -/
import Derived.Test.YtoaldbjcpfkcjaaGreatcNa
namespace Go.Proofs.YtoaldbjcpfkcjaaGreat

/-- A way. -/
structure Wy where
 id : Int
 ln : List (Int × Int)
 lv : Int
 cl : ByteArray
 nm : ByteArray
 st : Bool
 wt : Int
 ds : Int
abbrev Key := Int × Int × Int
def goes (a : Wy) : Bool := decide (0 < a.ln.length)
def fstK (a : Wy) : Key := match a.ln with | [] => (0, 0, 0) | p :: _ => (p.1, p.2, a.lv)
def lstK (a : Wy) : Key := match a.ln.getLast? with | none => (0, 0, 0) | some p => (p.1, p.2, a.lv)
def joinP (a b : Wy) : Bool := goes a && goes b && (decide (fstK a = fstK b) || decide (fstK a = lstK b) || decide (lstK a = fstK b) || decide (lstK a = lstK b))
theorem joinP_symm {a b : Wy} (h : joinP a b = true) : joinP b a = true := by
 unfold joinP at h ⊢
 simp only [Bool.and_eq_true, Bool.or_eq_true, decide_eq_true_eq] at h ⊢
 obtain ⟨⟨h1, h2⟩, h3⟩ := h
 refine ⟨⟨h2, h1⟩, ?_⟩
 rcases h3 with ((h | h) | h) | h <;> simp [h]
def lab (ws : List Wy) (i : Nat) : Option Key := (ws[i]?).bind fun a => if goes a then some (fstK a) else none
def edges (ws : List Wy) : List (Key × Key) := ((ws.filter goes).map fun a => (fstK a, lstK a)).reverse
def CC (ws : List Wy) (i j : Nat) : Bool := decide (i = j) || (match lab ws i, lab ws j with | some a, some b => eqv (edges ws) a b | _, _ => false)
def idsOf (ws : List Wy) (i : Nat) : Int := (ws[i]?.map Wy.id).getD 0
def grpW (ws : List Wy) : List (List Int) := grp ws.length (CC ws) (idsOf ws)
theorem edges_snoc (ws : List Wy) (a : Wy) : edges (ws ++ [a]) = if goes a then (fstK a, lstK a) :: edges ws else edges ws := by
 unfold edges
 rw [List.filter_append]
 by_cases h : goes a = true
 ·simp [h]
 ·simp [h]
theorem CC_some {ws : List Wy} {i j : Nat} {a b : Key} (ha : lab ws i = some a) (hb : lab ws j = some b) : CC ws i j = (decide (i = j) || eqv (edges ws) a b) := by unfold CC; rw [ha, hb]
theorem CC_none {ws : List Wy} {i j : Nat} (ha : lab ws i = none) : CC ws i j = decide (i = j) := by unfold CC; rw [ha]; simp
theorem CC_none' {ws : List Wy} {i j : Nat} (ha : lab ws j = none) : CC ws i j = decide (i = j) := by unfold CC; rw [ha]; cases lab ws i <;> simp
theorem CC_equ (ws : List Wy) : Equ (CC ws) where
 r i := by unfold CC; simp
 s {i j} h := by
  cases ha : lab ws i with
  | none => rw [CC_none ha] at h; simp at h; subst h; unfold CC; simp
  | some a =>
   cases hb : lab ws j with
   | none => rw [CC_none' hb] at h; simp at h; subst h; unfold CC; simp
   | some b =>
    rw [CC_some ha hb] at h
    rw [CC_some hb ha]
    simp only [Bool.or_eq_true, decide_eq_true_eq] at h ⊢
    exact h.imp (fun e => e.symm) (fun e => eqv_symm _ e)
 t {i j k} h g := by
  cases ha : lab ws i with
  | none => rw [CC_none ha] at h; simp at h; subst h; exact g
  | some a =>
   cases hb : lab ws j with
   | none => rw [CC_none hb] at g; simp at g; subst g; exact h
   | some b =>
    cases hc : lab ws k with
    | none => rw [CC_none' hc] at g; simp at g; subst g; exact h
    | some c =>
     rw [CC_some ha hb] at h
     rw [CC_some hb hc] at g
     rw [CC_some ha hc]
     simp only [Bool.or_eq_true, decide_eq_true_eq] at h g ⊢
     rcases h with rfl | h
     ·rw [ha] at hb; cases hb; exact g
     ·rcases g with rfl | g
      ·rw [hb] at hc; cases hc; exact .inr h
      ·exact .inr (eqv_trans _ h g)

/-- A chain of joints. -/
inductive Conn (J : Nat → Nat → Bool) : Nat → Nat → Prop
 | refl (i : Nat) : Conn J i i
 | step {i j k : Nat} : Conn J i j → J j k = true → Conn J i k
theorem Conn.trans {J : Nat → Nat → Bool} {i j k : Nat} (h : Conn J i j) (g : Conn J j k) : Conn J i k := by
 induction g with
 | refl => exact h
 | step _ q ih => exact .step ih q
theorem Conn.one {J : Nat → Nat → Bool} {i j : Nat} (h : J i j = true) : Conn J i j := .step (.refl i) h
theorem Conn.symm {J : Nat → Nat → Bool} (hs : ∀ i j, J i j = true → J j i = true) {i j : Nat} (h : Conn J i j) : Conn J j i := by
 induction h with
 | refl => exact .refl _
 | step _ q ih => exact (Conn.one (hs _ _ q)).trans ih
theorem Conn.congr {J K : Nat → Nat → Bool} (h : ∀ i j, J i j = true → K i j = true) {i j : Nat} (g : Conn J i j) : Conn K i j := by
 induction g with
 | refl => exact .refl _
 | step _ q ih => exact .step ih (h _ _ q)
def JJ (ws : List Wy) (i j : Nat) : Bool := match ws[i]?, ws[j]? with | some a, some b => joinP a b | _, _ => false
theorem JJ_some {ws : List Wy} {i j : Nat} {a b : Wy} (ha : ws[i]? = some a) (hb : ws[j]? = some b) : JJ ws i j = joinP a b := by unfold JJ; rw [ha, hb]
theorem JJ_symm (ws : List Wy) (i j : Nat) (h : JJ ws i j = true) : JJ ws j i = true := by
 unfold JJ at h ⊢
 cases ha : ws[i]? <;> cases hb : ws[j]? <;> simp only [ha, hb] at h ⊢ <;> first | (cases h; done) | exact joinP_symm h
theorem JJ_get {ws : List Wy} {i j : Nat} (h : JJ ws i j = true) : ∃ a b, ws[i]? = some a ∧ ws[j]? = some b ∧ joinP a b = true := by
 unfold JJ at h
 cases ha : ws[i]? <;> cases hb : ws[j]? <;> simp only [ha, hb] at h <;> first | (cases h; done) | exact ⟨_, _, rfl, rfl, h⟩
def stopOf (a : Wy) (k : Key) : Prop := k = fstK a ∨ k = lstK a
theorem joinP_of {a b : Wy} (ha : goes a = true) (hb : goes b = true) {k : Key} (h1 : stopOf a k) (h2 : stopOf b k) : joinP a b = true := by
 unfold joinP
 simp only [ha, hb, Bool.and_self, Bool.true_and, Bool.or_eq_true, decide_eq_true_eq]
 rcases h1 with rfl | rfl <;> rcases h2 with h | h <;> simp [h]
theorem lab_some {ws : List Wy} {i : Nat} {k : Key} (h : lab ws i = some k) : ∃ a, ws[i]? = some a ∧ goes a = true ∧ k = fstK a := by
 unfold lab at h
 cases ha : ws[i]? with
 | none => rw [ha] at h; cases h
 | some a =>
  rw [ha] at h
  simp only [Option.bind_some] at h
  split at h
  ·rename_i g; cases h; exact ⟨a, rfl, g, rfl⟩
  ·cases h
theorem lab_goes {ws : List Wy} {i : Nat} {a : Wy} (h : ws[i]? = some a) (g : goes a = true) : lab ws i = some (fstK a) := by
 unfold lab; rw [h]; simp [g]
theorem lab_not {ws : List Wy} {i : Nat} {a : Wy} (h : ws[i]? = some a) (g : goes a = false) : lab ws i = none := by
 unfold lab; rw [h]; simp [g]
theorem mem_edges {ws : List Wy} {p : Key × Key} : p ∈ edges ws ↔ ∃ (i : Nat) (a : Wy), ws[i]? = some a ∧ goes a = true ∧ p = (fstK a, lstK a) := by
 unfold edges
 rw [List.mem_reverse, List.mem_map]
 constructor
 ·rintro ⟨a, ha, rfl⟩
  obtain ⟨h1, h2⟩ := List.mem_filter.1 ha
  obtain ⟨i, hi⟩ := List.mem_iff_getElem?.1 h1
  exact ⟨i, a, hi, h2, rfl⟩
 ·rintro ⟨i, a, hi, h2, rfl⟩
  exact ⟨a, List.mem_filter.2 ⟨List.mem_of_getElem? hi, h2⟩, rfl⟩
theorem eqv_stops {ws : List Wy} {i : Nat} {a : Wy} (h : ws[i]? = some a) (g : goes a = true) {k l : Key} (hk : stopOf a k) (hl : stopOf a l) : eqv (edges ws) k l = true := by
 have e : eqv (edges ws) (fstK a) (lstK a) = true := eqv_edge (p := (fstK a, lstK a)) (mem_edges.2 ⟨i, a, h, g, rfl⟩)
 rcases hk with rfl | rfl <;> rcases hl with rfl | rfl
 ·exact eqv_refl _ _
 ·exact e
 ·exact eqv_symm _ e
 ·exact eqv_refl _ _
theorem CC_conn {ws : List Wy} {i j : Nat} : CC ws i j = true ↔ Conn (JJ ws) i j := by
 constructor
 ·intro h
  cases ha : lab ws i with
  | none => rw [CC_none ha] at h; simp at h; subst h; exact .refl _
  | some k =>
   cases hb : lab ws j with
   | none => rw [CC_none' hb] at h; simp at h; subst h; exact .refl _
   | some l =>
    rw [CC_some ha hb] at h
    simp only [Bool.or_eq_true, decide_eq_true_eq] at h
    rcases h with rfl | h
    ·exact .refl _
    obtain ⟨a, a1, a2, rfl⟩ := lab_some ha
    obtain ⟨b, b1, b2, rfl⟩ := lab_some hb
    have key := eqv_least (T := fun k l => k = l ∨ ∃ (i j : Nat) (x y : Wy), ws[i]? = some x ∧ goes x = true ∧ stopOf x k ∧ ws[j]? = some y ∧ goes y = true ∧ stopOf y l ∧ Conn (JJ ws) i j)
     (fun _ => .inl rfl)
     (fun a b h => by
      rcases h with rfl | ⟨i, j, x, y, h1, h2, h3, h4, h5, h6, h7⟩
      ·exact .inl rfl
      ·exact .inr ⟨j, i, y, x, h4, h5, h6, h1, h2, h3, h7.symm (JJ_symm ws)⟩)
     (fun a b c h g => by
      rcases h with rfl | ⟨i, j, x, y, h1, h2, h3, h4, h5, h6, h7⟩
      ·exact g
      ·rcases g with rfl | ⟨i', j', x', y', g1, g2, g3, g4, g5, g6, g7⟩
       ·exact .inr ⟨i, j, x, y, h1, h2, h3, h4, h5, h6, h7⟩
       ·exact .inr ⟨i, j', x, y', h1, h2, h3, g4, g5, g6, (h7.step (by rw [JJ_some h4 g1]; exact joinP_of h5 g2 h6 g3)).trans g7⟩)
     (es := edges ws) (fun p hp => by
      obtain ⟨i, a, h1, h2, rfl⟩ := mem_edges.1 hp
      exact .inr ⟨i, i, a, a, h1, h2, .inl rfl, h1, h2, .inr rfl, .refl _⟩) h
    rcases key with e | ⟨i', j', x, y, h1, h2, h3, h4, h5, h6, h7⟩
    ·exact .one (by rw [JJ_some a1 b1]; exact joinP_of a2 b2 (.inl rfl) (.inl e))
    ·refine ((Conn.one ?_).trans h7).step ?_
     ·rw [JJ_some a1 h1]; exact joinP_of a2 h2 (.inl rfl) h3
     ·rw [JJ_some h4 b1]; exact joinP_of h5 b2 h6 (.inl rfl)
 ·intro h
  induction h with
  | refl => exact (CC_equ ws).r _
  | step _ q ih =>
   refine (CC_equ ws).t ih ?_
   obtain ⟨a, b, a1, b1, hj⟩ := JJ_get q
   unfold joinP at hj
   simp only [Bool.and_eq_true, Bool.or_eq_true, decide_eq_true_eq] at hj
   obtain ⟨⟨a2, b2⟩, h3⟩ := hj
   rw [CC_some (lab_goes a1 a2) (lab_goes b1 b2), Bool.or_eq_true]
   right
   rcases h3 with ((h | h) | h) | h
   ·rw [h]; exact eqv_refl _ _
   ·rw [h]; exact eqv_stops b1 b2 (.inr rfl) (.inl rfl)
   ·exact eqv_trans _ (eqv_stops a1 a2 (.inl rfl) (.inr rfl)) (by rw [h]; exact eqv_refl _ _)
   ·exact eqv_trans _ (eqv_stops a1 a2 (.inl rfl) (.inr rfl)) (by rw [h]; exact eqv_stops b1 b2 (.inr rfl) (.inl rfl))
/-! ### the forest -/
abbrev Forest := Key → Option (Key × Int)
/-- Where the tree of a key begins. -/
inductive RootOf (F : Forest) : Key → Key → Prop
 | base {k : Key} {n : Int} : F k = some (k, n) → RootOf F k k
 | step {k u r : Key} {n : Int} : F k = some (u, n) → u ≠ k → RootOf F u r → RootOf F k r
theorem RootOf.root {F : Forest} {k r : Key} (h : RootOf F k r) : ∃ n, F r = some (r, n) := by
 induction h with
 | base h => exact ⟨_, h⟩
 | step _ _ _ ih => exact ih
/-- The forest after some pairs were joined: R is the root of each key in it. -/
structure FOk (F : Forest) (R : Key → Key) (es : List (Key × Key)) : Prop where
 root : ∀ k, F k ≠ none → RootOf F k (R k)
 same : ∀ k l, F k ≠ none → F l ≠ none → (R k = R l ↔ eqv es k l = true)
 out : ∀ k, F k = none → ∀ l, eqv es k l = true → k = l
def FSet (F : Forest) (k : Key) (v : Key × Int) : Forest := fun l => if l = k then some v else F l
theorem FOk.nil : FOk (fun _ => none) (fun k => k) [] := ⟨fun k h => absurd rfl h, fun k l h => absurd rfl h, fun k _ l h => by simpa [eqv] using h⟩
theorem FOk.add {F : Forest} {R : Key → Key} {es : List (Key × Key)} (h : FOk F R es) {k : Key} (hk : F k = none) : FOk (FSet F k (k, 1)) (fun l => if l = k then k else R l) es := by
 have old : ∀ {a r : Key}, RootOf F a r → a ≠ k := fun {a r} q e => by
  subst e
  cases q with
  | base q => rw [hk] at q; cases q
  | step q _ _ => rw [hk] at q; cases q
 have keep : ∀ {a r : Key}, RootOf F a r → RootOf (FSet F k (k, 1)) a r := fun {a r} q => by
  induction q with
  | base q => exact .base (n := _) (by unfold FSet; rw [if_neg (old (.base q))]; exact q)
  | step q1 q2 q3 ih => exact .step (by unfold FSet; rw [if_neg (old (.step q1 q2 q3))]; exact q1) q2 ih
 refine ⟨fun l hl => ?_, fun a b ha hb => ?_, fun a ha b hab => ?_⟩
 ·by_cases e : l = k
  ·subst e; rw [if_pos rfl]; exact .base (n := 1) (by unfold FSet; rw [if_pos rfl])
  ·rw [if_neg e]
   unfold FSet at hl
   rw [if_neg e] at hl
   exact keep (h.root l hl)
 ·unfold FSet at ha hb
  by_cases e : a = k <;> by_cases f : b = k
  ·subst e f; simp [eqv_refl]
  ·subst e; rw [if_pos rfl, if_neg f]
   rw [if_neg f] at hb
   constructor
   ·intro q; exfalso
    obtain ⟨n, hn⟩ := (h.root b hb).root
    rw [← q, hk] at hn; cases hn
   ·intro q; exact absurd (h.out _ hk _ q).symm f
  ·subst f; rw [if_pos rfl, if_neg e]
   rw [if_neg e] at ha
   constructor
   ·intro q; exfalso
    obtain ⟨n, hn⟩ := (h.root a ha).root
    rw [q, hk] at hn; cases hn
   ·intro q; exact absurd (h.out _ hk _ (eqv_symm _ q)).symm e
  ·rw [if_neg e, if_neg f]
   rw [if_neg e] at ha
   rw [if_neg f] at hb
   exact h.same a b ha hb
 ·unfold FSet at ha
  by_cases e : a = k
  ·rw [if_pos e] at ha; cases ha
  ·rw [if_neg e] at ha; exact h.out a ha b hab
/-- Two trees become one. -/
theorem FOk.join {F : Forest} {R : Key → Key} {es : List (Key × Key)} (h : FOk F R es) {k l a b : Key} {m n : Int} (hk : F k ≠ none) (hl : F l ≠ none) (hab : (R k = a ∧ R l = b) ∨ (R k = b ∧ R l = a)) (hne : a ≠ b) :
  FOk (FSet (FSet F a (a, m)) b (a, n)) (fun q => if R q = b then a else R q) ((k, l) :: es) := by
 have ra : ∃ n, F a = some (a, n) := by
  rcases hab with ⟨rfl, -⟩ | ⟨-, rfl⟩
  ·exact (h.root k hk).root
  ·exact (h.root l hl).root
 have rb : ∃ n, F b = some (b, n) := by
  rcases hab with ⟨-, rfl⟩ | ⟨rfl, -⟩
  ·exact (h.root l hl).root
  ·exact (h.root k hk).root
 obtain ⟨na, ra⟩ := ra
 obtain ⟨nb, rb⟩ := rb
 have Fa : FSet (FSet F a (a, m)) b (a, n) a = some (a, m) := by unfold FSet; rw [if_neg hne, if_pos rfl]
 have Fb : FSet (FSet F a (a, m)) b (a, n) b = some (a, n) := by unfold FSet; rw [if_pos rfl]
 have Fo : ∀ q, q ≠ a → q ≠ b → FSet (FSet F a (a, m)) b (a, n) q = F q := fun q h1 h2 => by unfold FSet; rw [if_neg h2, if_neg h1]
 have dom : ∀ q, FSet (FSet F a (a, m)) b (a, n) q ≠ none ↔ F q ≠ none := by
  intro q
  by_cases e : q = b
  ·subst e; rw [Fb, rb]; simp
  ·by_cases f : q = a
   ·subst f; rw [Fa, ra]; simp
   ·rw [Fo q f e]
 have rt : ∀ {q r : Key}, RootOf F q r → RootOf (FSet (FSet F a (a, m)) b (a, n)) q (if r = b then a else r) := by
  intro q r hq
  induction hq with
  | @base q n' hq =>
   by_cases e : q = b
   ·subst e; rw [if_pos rfl]; exact .step Fb hne (.base Fa)
   ·rw [if_neg e]
    by_cases f : q = a
    ·subst f; exact .base Fa
    ·exact .base (by rw [Fo q f e]; exact hq)
  | @step q u r n' hq hu hr ih =>
   have e : q ≠ b := by intro e; subst e; rw [rb] at hq; cases hq; exact hu rfl
   have f : q ≠ a := by intro f; subst f; rw [ra] at hq; cases hq; exact hu rfl
   exact .step (by rw [Fo q f e]; exact hq) hu ih
 refine ⟨fun q hq => rt (h.root q ((dom q).1 hq)), fun x y hx hy => ?_, fun x hx y hxy => ?_⟩
 ·have hx := (dom x).1 hx
  have hy := (dom y).1 hy
  simp only [eqv, Bool.or_eq_true, Bool.and_eq_true]
  rw [← h.same x y hx hy, ← h.same x k hx hk, ← h.same l y hl hy, ← h.same x l hx hl, ← h.same k y hk hy]
  rcases hab with ⟨e1, e2⟩ | ⟨e1, e2⟩ <;> rw [e1, e2] <;> by_cases f1 : R x = b <;> by_cases f2 : R y = b <;> simp only [f1, f2, if_true, if_false]
  all_goals (first | (constructor <;> intro q; first | exact .inl (.inl rfl) | rfl) | skip)
  all_goals (constructor <;> intro q)
  all_goals (first | (rcases q with (q | ⟨q1, q2⟩) | ⟨q1, q2⟩) | skip)
  all_goals (first | (subst_vars; simp_all; done) | (simp_all; done) | grind)
 ·have hx : F x = none := by
   cases hq : F x with
   | none => rfl
   | some v => exact absurd hx ((dom x).2 (by rw [hq]; simp))
  simp only [eqv, Bool.or_eq_true, Bool.and_eq_true] at hxy
  rcases hxy with (q | ⟨q1, q2⟩) | ⟨q1, q2⟩
  ·exact h.out x hx y q
  ·exact absurd hx (by rw [h.out x hx _ q1]; exact hk)
  ·exact absurd hx (by rw [h.out x hx _ q1]; exact hl)
/-- A pair of one tree is joined. -/
theorem FOk.keep {F : Forest} {R : Key → Key} {es : List (Key × Key)} (h : FOk F R es) {k l : Key} (hk : F k ≠ none) (hl : F l ≠ none) (he : R k = R l) : FOk F R ((k, l) :: es) := by
 have hkl := (h.same k l hk hl).1 he
 have eq : ∀ x y, eqv ((k, l) :: es) x y = eqv es x y := by
  intro x y
  rw [Bool.eq_iff_iff]
  simp only [eqv, Bool.or_eq_true, Bool.and_eq_true]
  constructor
  ·rintro ((q | ⟨q1, q2⟩) | ⟨q1, q2⟩)
   ·exact q
   ·exact eqv_trans _ q1 (eqv_trans _ hkl q2)
   ·exact eqv_trans _ q1 (eqv_trans _ (eqv_symm _ hkl) q2)
  ·exact fun q => .inl (.inl q)
 exact ⟨h.root, fun x y hx hy => by rw [eq]; exact h.same x y hx hy, fun x hx y => by rw [eq]; exact h.out x hx y⟩

end Go.Proofs.YtoaldbjcpfkcjaaGreat
