/- The reference: Check. ring.segments: what it hands back hands out the segments of a ring. ring.Area2. The reference: next and Area2. ring.Check. Check and Cross are the reference's. The reference: Check of a ring. -/
import Derived.Test.YtoaldbjcpfkcjaaGreatrB8
import Derived.Test.YtoaldbjcpfkcjaaGreatrB6
import Derived.Test.YtoaldbjcpfkcjaaGreatrB5
import Derived.Test.YtoaldbjcpfkcjaaGreatrB7
namespace Go.Proofs.YtoaldbjcpfkcjaaGreat
open Go.RowKit Go.Lib

/-- How often the segments i and j of a list meet; whether that is not what is wanted. -/
def mK (ps : List (Int × Int)) (i j : Nat) : Int := meetOf (pt ps i).1 (pt ps i).2 (pt ps (i + 1)).1 (pt ps (i + 1)).2 (pt ps j).1 (pt ps j).2 (pt ps (j + 1)).1 (pt ps (j + 1)).2
def badM2 (ps : List (Int × Int)) (j i : Nat) : Bool := decide (mK ps i j ≠ wantP ps i j)
def badS2 (ps : List (Int × Int)) (j : Nat) : Bool := decide (pt ps j = pt ps (j + 1)) || anyTo (badM2 ps j) j
def simpleR (ps : List (Int × Int)) : Bool := !anyTo (badS2 ps) (ps.length - 1)

end Go.Proofs.YtoaldbjcpfkcjaaGreat

namespace Go.Proofs.YtoaldbjcpfkcjaaGreat
open Go.RowKit Go.Lib

end Go.Proofs.YtoaldbjcpfkcjaaGreat

namespace Go.Proofs.YtoaldbjcpfkcjaaGreat
open Go.RowKit Go.Lib

end Go.Proofs.YtoaldbjcpfkcjaaGreat

namespace Go.Proofs.YtoaldbjcpfkcjaaGreat
open Go.RowKit Go.Lib

end Go.Proofs.YtoaldbjcpfkcjaaGreat

namespace Go.Proofs.YtoaldbjcpfkcjaaGreat
open Go.RowKit Go.Lib

theorem RowP.cells0 {w : World} {b o n c : Nat} {ps : List (Int × Int)} (h : RowP w (.slice (some ⟨b, o, none⟩) n c) ps) {x y : Int} (hi : ps[0]? = some (x, y)) :
    w.cell? ⟨b, o, none⟩ = some (.int .i64 x) ∧ w.cell? ⟨b, o + 1, none⟩ = some (.int .i64 y) := by
  have := h.cells hi
  rwa [Nat.zero_mul, Nat.add_zero] at this
end Go.Proofs.YtoaldbjcpfkcjaaGreat

namespace Go.Proofs.YtoaldbjcpfkcjaaGreat
open Go.RowKit Go.Lib Geo

theorem lo_le {sel : Int × Int → Int} {ps : List (Int × Int)} : ∀ {n k : Nat}, n ≤ ps.length → k < n → lo sel ps n ≤ sel (pt ps k) := by
  intro n
  induction n with
  | zero => intro k _ h; omega
  | succ n ih =>
    intro k hn hk
    rw [lo_next (by omega)]
    by_cases h : k = n
    · subst h; exact Int.min_le_right _ _
    · exact Int.le_trans (Int.min_le_left _ _) (ih (by omega) (by omega))
theorem hi_ge {sel : Int × Int → Int} {ps : List (Int × Int)} : ∀ {n k : Nat}, n ≤ ps.length → k < n → sel (pt ps k) ≤ hi sel ps n := by
  intro n
  induction n with
  | zero => intro k _ h; omega
  | succ n ih =>
    intro k hn hk
    rw [hi_next (by omega)]
    by_cases h : k = n
    · subst h; exact Int.le_max_right _ _
    · exact Int.le_trans (ih (by omega) (by omega)) (Int.le_max_left _ _)
/-- The boxes of lists are near, if those of two segments of theirs are. -/
theorem near_of {l m : List (Int × Int)} {i j : Nat} (hi' : i + 1 < l.length) (hj : j + 1 < m.length) (h : bnear (pt l i).1 (pt l i).2 (pt l (i + 1)).1 (pt l (i + 1)).2 (pt m j).1 (pt m j).2 (pt m (j + 1)).1 (pt m (j + 1)).2) : nearP l m = true := by
  obtain ⟨h1, h2, h3, h4⟩ := h
  have a1 := lo_le (sel := Prod.fst) (ps := l) (Nat.le_refl _) (show i < l.length by omega)
  have a2 := lo_le (sel := Prod.fst) (ps := l) (Nat.le_refl _) hi'
  have a3 := lo_le (sel := Prod.snd) (ps := l) (Nat.le_refl _) (show i < l.length by omega)
  have a4 := lo_le (sel := Prod.snd) (ps := l) (Nat.le_refl _) hi'
  have b1 := hi_ge (sel := Prod.fst) (ps := l) (Nat.le_refl _) (show i < l.length by omega)
  have b2 := hi_ge (sel := Prod.fst) (ps := l) (Nat.le_refl _) hi'
  have b3 := hi_ge (sel := Prod.snd) (ps := l) (Nat.le_refl _) (show i < l.length by omega)
  have b4 := hi_ge (sel := Prod.snd) (ps := l) (Nat.le_refl _) hi'
  have c1 := lo_le (sel := Prod.fst) (ps := m) (Nat.le_refl _) (show j < m.length by omega)
  have c2 := lo_le (sel := Prod.fst) (ps := m) (Nat.le_refl _) hj
  have c3 := lo_le (sel := Prod.snd) (ps := m) (Nat.le_refl _) (show j < m.length by omega)
  have c4 := lo_le (sel := Prod.snd) (ps := m) (Nat.le_refl _) hj
  have d1 := hi_ge (sel := Prod.fst) (ps := m) (Nat.le_refl _) (show j < m.length by omega)
  have d2 := hi_ge (sel := Prod.fst) (ps := m) (Nat.le_refl _) hj
  have d3 := hi_ge (sel := Prod.snd) (ps := m) (Nat.le_refl _) (show j < m.length by omega)
  have d4 := hi_ge (sel := Prod.snd) (ps := m) (Nat.le_refl _) hj
  unfold nearP bxo
  rw [if_neg (by omega), if_neg (by omega)]
  exact near_yes (by simp only; omega) (by simp only; omega) (by simp only; omega) (by simp only; omega)
theorem rt_in {p : Int × Int} (h : rtP p = true) : In p.1 p.2 := by
  unfold rtP at h
  rw [inl_iff] at h
  rw [in_iff]
  omega
theorem lmeet_same {a0 a1 b0 b1 c0 c1 d0 d1 : Int} (ha : rtP (a0, a1) = true) (hb : rtP (b0, b1) = true) (hc : rtP (c0, c1) = true) (hd : rtP (d0, d1) = true) : lmeet a0 a1 b0 b1 c0 c1 d0 d1 = meetOf a0 a1 b0 b1 c0 c1 d0 d1 := by
  unfold lmeet
  split
  · rfl
  · rename_i hn
    refine Eq.symm (Decidable.byContradiction fun h => hn ?_)
    exact near_of (l := [(a0, a1), (b0, b1)]) (m := [(c0, c1), (d0, d1)]) (i := 0) (j := 0) (by simp) (by simp) (bnear_of_meet (rt_in ha) (rt_in hb) (rt_in hc) (rt_in hd) h)
theorem lmeet_pt {p q r s : Int × Int} (ha : rtP p = true) (hb : rtP q = true) (hc : rtP r = true) (hd : rtP s = true) : lmeet p.1 p.2 q.1 q.2 r.1 r.2 s.1 s.2 = meetOf p.1 p.2 q.1 q.2 r.1 r.2 s.1 s.2 := lmeet_same ha hb hc hd
theorem rtp_at {ps : List (Int × Int)} {k : Nat} (h : ps.all rtP = true) (hk : k < ps.length) : rtP (pt ps k) = true := (List.all_eq_true.1 h) (pt ps k) (List.mem_of_getElem? (at_pt hk))
theorem anyTo_congr {f g : Nat → Bool} : ∀ {n : Nat}, (∀ k, k < n → f k = g k) → anyTo f n = anyTo g n := by
  intro n
  induction n with
  | zero => intro _; rfl
  | succ n ih => intro h; rw [anyTo, anyTo, ih (fun k hk => h k (by omega)), h n (by omega)]
theorem simple_same {ps : List (Int × Int)} (h : ps.all rtP = true) : simpleP ps = simpleR ps := by
  unfold simpleP simpleR
  rw [anyTo_congr (g := badS2 ps)]
  intro j hj
  unfold badS badS2
  rw [anyTo_congr (g := badM2 ps j)]
  intro i hi
  unfold badM badM2 lmK mK
  rw [lmeet_pt (rtp_at h (by omega)) (rtp_at h (by omega)) (rtp_at h (by omega)) (rtp_at h (by omega))]
theorem chk_same (ps : List (Int × Int)) : chkP ps (simpleP ps) = chkP ps (simpleR ps) := by
  cases h : ps.all rtP
  · unfold chkP; rw [h]; simp only [if_true]
  · rw [simple_same h]
end Go.Proofs.YtoaldbjcpfkcjaaGreat

namespace Go.Proofs.YtoaldbjcpfkcjaaGreat
open Go.RowKit Go.Lib

end Go.Proofs.YtoaldbjcpfkcjaaGreat
