/- Triangles: corners are in them; their order plays no part; what is in one touches it, what is apart does not. -/
import Derived.Test.YtkejilomempogaaXt
import Derived.Test.YtkejilomempogaaTo
namespace Go.Proofs.Ytkejilomempogaa
open Go.RowKit Go.Lib Geo

theorem on_sym (a b c d e f : Int) : on c d a b e f = on a b c d e f := by
  unfold on
  refine decide_eq_decide.2 ?_
  rw [cr_swap, bx_swap]
  exact ⟨fun h => ⟨by omega, h.2⟩, fun h => ⟨by omega, h.2⟩⟩
theorem sgn_flip {x y : Int} (h : x = -y) : x.sign = -y.sign := by rw [h, Int.sign_neg]
/-- In, in plain geometry. -/
def inG (a b c p : Int × Int) : Prop :=
  (sdP a b p ≠ 0 ∧ sdP a b p = sdP b c p ∧ sdP a b p = sdP c a p) ∨ onOf a.1 a.2 b.1 b.2 p.1 p.2 = true ∨ onOf b.1 b.2 c.1 c.2 p.1 p.2 = true ∨ onOf c.1 c.2 a.1 a.2 p.1 p.2 = true
theorem inP_iff (a b c p : Int × Int) : inP a b c p = true ↔ ([a, b, c, p].all rtP = true ∧ inG a b c p) := by
  have e : anyTo (onK a b c p) 3 = true ↔ (onOf a.1 a.2 b.1 b.2 p.1 p.2 = true ∨ onOf b.1 b.2 c.1 c.2 p.1 p.2 = true ∨ onOf c.1 c.2 a.1 a.2 p.1 p.2 = true) := by
    rw [anyTo, anyTo, anyTo, anyTo, Bool.false_or, Bool.or_eq_true, Bool.or_eq_true, or_assoc]; exact Iff.rfl
  unfold inP inG
  rw [Bool.and_eq_true, ← e]
  by_cases h : sdP a b p ≠ 0 ∧ sdP a b p = sdP b c p ∧ sdP a b p = sdP c a p
  · rw [if_pos h]; exact ⟨fun k => ⟨k.1, .inl h⟩, fun k => ⟨k.1, rfl⟩⟩
  · rw [if_neg h]; exact ⟨fun k => ⟨k.1, .inr k.2⟩, fun k => ⟨k.1, k.2.elim (fun x => absurd x h) id⟩⟩
theorem all4 {a b c d : Int × Int} : [a, b, c, d].all rtP = true ↔ (rtP a = true ∧ rtP b = true ∧ rtP c = true ∧ rtP d = true) := by simp
theorem all5 {a b c d e : Int × Int} : [a, b, c, d, e].all rtP = true ↔ (rtP a = true ∧ rtP b = true ∧ rtP c = true ∧ rtP d = true ∧ rtP e = true) := by simp
theorem in_next1 {a b c p : Int × Int} (h : inP a b c p = true) : inP b c a p = true := by
  rw [inP_iff] at *
  obtain ⟨h1, h2⟩ := h
  rw [all4] at *
  refine ⟨⟨h1.2.1, h1.2.2.1, h1.1, h1.2.2.2⟩, ?_⟩
  unfold inG at *
  rcases h2 with ⟨x, y, z⟩ | h | h | h
  · exact .inl ⟨by omega, by omega, by omega⟩
  · exact .inr (.inr (.inr h))
  · exact .inr (.inl h)
  · exact .inr (.inr (.inl h))
theorem in_next (a b c p : Int × Int) : inP b c a p = inP a b c p := by
  rw [Bool.eq_iff_iff]; exact ⟨fun h => in_next1 (in_next1 h), in_next1⟩
theorem sd_flip {a b p : Int × Int} (ha : rtP a = true) (hb : rtP b = true) (hp : rtP p = true) : sdP b a p = -sdP a b p := by
  unfold sdP; rw [side_in (rt_in hb) (rt_in ha) (rt_in hp), side_in (rt_in ha) (rt_in hb) (rt_in hp), cr_flip]
theorem onOf_sym {a b p : Int × Int} (ha : rtP a = true) (hb : rtP b = true) (hp : rtP p = true) : onOf b.1 b.2 a.1 a.2 p.1 p.2 = onOf a.1 a.2 b.1 b.2 p.1 p.2 := by
  rw [on_in (rt_in hb) (rt_in ha) (rt_in hp), on_in (rt_in ha) (rt_in hb) (rt_in hp), on_sym]
theorem in_flip1 {a b c p : Int × Int} (h : inP a b c p = true) : inP c b a p = true := by
  rw [inP_iff] at *
  obtain ⟨h1, h2⟩ := h
  rw [all4] at *
  obtain ⟨ra, rb, rc, rp⟩ := h1
  refine ⟨⟨rc, rb, ra, rp⟩, ?_⟩
  unfold inG at *
  rw [sd_flip rb rc rp, sd_flip ra rb rp, sd_flip rc ra rp, onOf_sym rb rc rp, onOf_sym ra rb rp, onOf_sym rc ra rp]
  rcases h2 with ⟨x, y, z⟩ | h | h | h
  · exact .inl ⟨by omega, by omega, by omega⟩
  · exact .inr (.inr (.inl h))
  · exact .inr (.inl h)
  · exact .inr (.inr (.inr h))
theorem in_flip (a b c p : Int × Int) : inP c b a p = inP a b c p := by
  rw [Bool.eq_iff_iff]; exact ⟨in_flip1, in_flip1⟩
theorem in_corner {a b c : Int × Int} (ha : rtP a = true) (hb : rtP b = true) (hc : rtP c = true) : inP a b c a = true := by
  rw [inP_iff, all4]
  refine ⟨⟨ha, hb, hc, ha⟩, .inr (.inl ?_)⟩
  rw [on_in (rt_in ha) (rt_in hb) (rt_in ha)]; exact on_left _ _ _ _
theorem in_corner2 {a b c : Int × Int} (ha : rtP a = true) (hb : rtP b = true) (hc : rtP c = true) : inP a b c b = true := (in_next a b c b).symm.trans (in_corner hb hc ha)
theorem in_corner3 {a b c : Int × Int} (ha : rtP a = true) (hb : rtP b = true) (hc : rtP c = true) : inP a b c c = true := (in_flip a b c c).symm.trans (in_corner hc hb ha)

/- Boxes of few points. -/
theorem rtb {p : Int × Int} (h : rtP p = true) : (-16384 ≤ p.1 ∧ p.1 ≤ 16384) ∧ (-16384 ≤ p.2 ∧ p.2 ≤ 16384) := rt16 h
theorem bx_two_pts {d e : Int × Int} (hd : rtP d = true) (he : rtP e = true) : bxo [d, e] = ((min d.1 e.1, min d.2 e.2), (max d.1 e.1, max d.2 e.2)) := by
  have h1 := rtb hd
  have h2 := rtb he
  unfold bxo lo hi
  simp only [List.length_cons, List.length_nil, List.take_succ_cons, List.take_nil, List.foldl_cons, List.foldl_nil]
  rw [if_neg (by omega), show min (min 9223372036854775807 d.1) e.1 = min d.1 e.1 by omega, show min (min 9223372036854775807 d.2) e.2 = min d.2 e.2 by omega, show max (max (-9223372036854775808) d.1) e.1 = max d.1 e.1 by omega, show max (max (-9223372036854775808) d.2) e.2 = max d.2 e.2 by omega]
theorem bx_three {a b c : Int × Int} (ha : rtP a = true) (hb : rtP b = true) (hc : rtP c = true) : bxo [a, b, c] = ((min (min a.1 b.1) c.1, min (min a.2 b.2) c.2), (max (max a.1 b.1) c.1, max (max a.2 b.2) c.2)) := by
  have h1 := rtb ha
  have h2 := rtb hb
  have h3 := rtb hc
  unfold bxo lo hi
  simp only [List.length_cons, List.length_nil, List.take_succ_cons, List.take_nil, List.foldl_cons, List.foldl_nil]
  rw [if_neg (by omega), show min (min (min 9223372036854775807 a.1) b.1) c.1 = min (min a.1 b.1) c.1 by omega, show min (min (min 9223372036854775807 a.2) b.2) c.2 = min (min a.2 b.2) c.2 by omega, show max (max (max (-9223372036854775808) a.1) b.1) c.1 = max (max a.1 b.1) c.1 by omega, show max (max (max (-9223372036854775808) a.2) b.2) c.2 = max (max a.2 b.2) c.2 by omega]
theorem bx_bdr {a b c : Int × Int} (ha : rtP a = true) (hb : rtP b = true) (hc : rtP c = true) : bxo (bdr a b c) = bxo [a, b, c] := by
  rw [bx_three ha hb hc]
  have h1 := rtb ha
  have h2 := rtb hb
  have h3 := rtb hc
  unfold bdr bxo lo hi
  simp only [List.length_cons, List.length_nil, List.take_succ_cons, List.take_nil, List.foldl_cons, List.foldl_nil]
  rw [if_neg (by omega), show min (min (min (min 9223372036854775807 a.1) b.1) c.1) a.1 = min (min a.1 b.1) c.1 by omega, show min (min (min (min 9223372036854775807 a.2) b.2) c.2) a.2 = min (min a.2 b.2) c.2 by omega, show max (max (max (max (-9223372036854775808) a.1) b.1) c.1) a.1 = max (max a.1 b.1) c.1 by omega, show max (max (max (max (-9223372036854775808) a.2) b.2) c.2) a.2 = max (max a.2 b.2) c.2 by omega]
theorem near_bdr {a b c : Int × Int} (ha : rtP a = true) (hb : rtP b = true) (hc : rtP c = true) (x : List (Int × Int)) : nearP (bdr a b c) x = nearP [a, b, c] x := by
  unfold nearP; rw [bx_bdr ha hb hc]
theorem bxo_flip3 {a b c : Int × Int} (ha : rtP a = true) (hb : rtP b = true) (hc : rtP c = true) : bxo [c, b, a] = bxo [a, b, c] := by
  rw [bx_three hc hb ha, bx_three ha hb hc]
  rw [show min (min c.1 b.1) a.1 = min (min a.1 b.1) c.1 by omega, show min (min c.2 b.2) a.2 = min (min a.2 b.2) c.2 by omega, show max (max c.1 b.1) a.1 = max (max a.1 b.1) c.1 by omega, show max (max c.2 b.2) a.2 = max (max a.2 b.2) c.2 by omega]
theorem bxo_flip2 {d e : Int × Int} (hd : rtP d = true) (he : rtP e = true) : bxo [e, d] = bxo [d, e] := by
  rw [bx_two_pts he hd, bx_two_pts hd he, Int.min_comm e.1, Int.min_comm e.2, Int.max_comm e.1, Int.max_comm e.2]

/-- What is in a triangle is in its box. -/
theorem in_range {x y z a b c p : Int} (hx : 0 < x) (hy : 0 < y) (hz : 0 < z) (h : x * (a - p) + y * (b - p) + z * (c - p) = 0) : min (min a b) c ≤ p ∧ p ≤ max (max a b) c := by
  refine ⟨Int.not_lt.1 fun hlt => ?_, Int.not_lt.1 fun hlt => ?_⟩
  · have := Int.mul_pos hx (show 0 < a - p by omega)
    have := Int.mul_pos hy (show 0 < b - p by omega)
    have := Int.mul_pos hz (show 0 < c - p by omega)
    omega
  · have := Int.mul_neg_of_pos_of_neg hx (show a - p < 0 by omega)
    have := Int.mul_neg_of_pos_of_neg hy (show b - p < 0 by omega)
    have := Int.mul_neg_of_pos_of_neg hz (show c - p < 0 by omega)
    omega
theorem in_box {a b c p : Int × Int} (h : inP a b c p = true) : (min (min a.1 b.1) c.1 ≤ p.1 ∧ p.1 ≤ max (max a.1 b.1) c.1) ∧ (min (min a.2 b.2) c.2 ≤ p.2 ∧ p.2 ≤ max (max a.2 b.2) c.2) := by
  rw [inP_iff, all4] at h
  obtain ⟨⟨ra, rb, rc, rp⟩, h⟩ := h
  unfold inG at h
  rw [on_in (rt_in ra) (rt_in rb) (rt_in rp), on_in (rt_in rb) (rt_in rc) (rt_in rp), on_in (rt_in rc) (rt_in ra) (rt_in rp), on_mem, on_mem, on_mem] at h
  rcases h with ⟨x, y, z⟩ | ⟨-, h⟩ | ⟨-, h⟩ | ⟨-, h⟩
  · unfold sdP at x y z
    rw [side_in (rt_in ra) (rt_in rb) (rt_in rp)] at x y z
    rw [side_in (rt_in rb) (rt_in rc) (rt_in rp)] at y
    rw [side_in (rt_in rc) (rt_in ra) (rt_in rp)] at z
    have e0 : cr b.1 b.2 c.1 c.2 p.1 p.2 * (a.1 - p.1) + cr c.1 c.2 a.1 a.2 p.1 p.2 * (b.1 - p.1) + cr a.1 a.2 b.1 b.2 p.1 p.2 * (c.1 - p.1) = 0 := by unfold cr; grind
    have e1 : cr b.1 b.2 c.1 c.2 p.1 p.2 * (a.2 - p.2) + cr c.1 c.2 a.1 a.2 p.1 p.2 * (b.2 - p.2) + cr a.1 a.2 b.1 b.2 p.1 p.2 * (c.2 - p.2) = 0 := by unfold cr; grind
    generalize cr a.1 a.2 b.1 b.2 p.1 p.2 = C at *
    generalize cr b.1 b.2 c.1 c.2 p.1 p.2 = A at *
    generalize cr c.1 c.2 a.1 a.2 p.1 p.2 = B at *
    rcases Int.lt_trichotomy C 0 with hC | hC | hC
    · rw [Int.sign_eq_neg_one_of_neg hC] at y z
      have hA := Int.neg_of_sign_eq_neg_one y.symm
      have hB := Int.neg_of_sign_eq_neg_one z.symm
      have e0' : (-A) * (a.1 - p.1) + (-B) * (b.1 - p.1) + (-C) * (c.1 - p.1) = 0 := by rw [Int.neg_mul, Int.neg_mul, Int.neg_mul]; omega
      have e1' : (-A) * (a.2 - p.2) + (-B) * (b.2 - p.2) + (-C) * (c.2 - p.2) = 0 := by rw [Int.neg_mul, Int.neg_mul, Int.neg_mul]; omega
      exact ⟨in_range (by omega) (by omega) (by omega) e0', in_range (by omega) (by omega) (by omega) e1'⟩
    · subst hC; exact absurd rfl x
    · rw [Int.sign_eq_one_of_pos hC] at y z
      have hA := Int.pos_of_sign_eq_one y.symm
      have hB := Int.pos_of_sign_eq_one z.symm
      exact ⟨in_range hA hB hC e0, in_range hA hB hC e1⟩
  · unfold bx bt at h; omega
  · unfold bx bt at h; omega
  · unfold bx bt at h; omega
theorem near_in {a b c d e : Int × Int} (he : rtP e = true) (h : inP a b c d = true) : nearP (bdr a b c) [d, e] = true := by
  have hb := in_box h
  rw [inP_iff, all4] at h
  obtain ⟨⟨ra, rb, rc, rd⟩, -⟩ := h
  rw [near_bdr ra rb rc]
  unfold nearP
  rw [bx_three ra rb rc, bx_two_pts rd he]
  exact near_yes (by simp only; omega) (by simp only; omega) (by simp only; omega) (by simp only; omega)

theorem lmeet_flip {p q r s : Int × Int} (ha : rtP p = true) (hb : rtP q = true) (hc : rtP r = true) (hd : rtP s = true) : lmeet p.1 p.2 q.1 q.2 s.1 s.2 r.1 r.2 = lmeet p.1 p.2 q.1 q.2 r.1 r.2 s.1 s.2 ∧ lmeet q.1 q.2 p.1 p.2 r.1 r.2 s.1 s.2 = lmeet p.1 p.2 q.1 q.2 r.1 r.2 s.1 s.2 := by
  rw [lmeet_pt ha hb hd hc, lmeet_pt hb ha hc hd, lmeet_pt ha hb hc hd, Geo.meet_in (rt_in ha) (rt_in hb) (rt_in hd) (rt_in hc), Geo.meet_in (rt_in hb) (rt_in ha) (rt_in hc) (rt_in hd), Geo.meet_in (rt_in ha) (rt_in hb) (rt_in hc) (rt_in hd)]
  exact ⟨meetG_right _ _ _ _ _ _ _ _, meetG_left _ _ _ _ _ _ _ _⟩
theorem any_both {ps qs : List (Int × Int)} {f g : Int × Int → Bool} (h : ∀ p ∈ ps, f p = g p) (k : ∀ p, p ∈ ps ↔ p ∈ qs) : ps.any f = qs.any g := by
  rw [Bool.eq_iff_iff, List.any_eq_true, List.any_eq_true]
  constructor
  · rintro ⟨p, hp, e⟩; exact ⟨p, (k p).1 hp, (h p hp).symm.trans e⟩
  · rintro ⟨p, hp, e⟩; exact ⟨p, (k p).2 hp, (h p ((k p).2 hp)).trans e⟩
theorem mb_right {p q r s a c : Int × Int} (hp : rtP p = true) (hq : rtP q = true) (hr : rtP r = true) (hs : rtP s = true) (ha : rtP a = true) (hc : rtP c = true) : mbP p.1 p.2 q.1 q.2 s.1 s.2 r.1 r.2 [a, c] = mbP p.1 p.2 q.1 q.2 r.1 r.2 s.1 s.2 [a, c] := by
  unfold mbP
  rw [(lmeet_flip hp hq hr hs).1, any_both (qs := [a, c]) (g := bothP p.1 p.2 q.1 q.2 r.1 r.2 s.1 s.2) ?_ (fun _ => Iff.rfl)]
  intro x hx
  have hx' : rtP x = true := by simp only [List.mem_cons, List.not_mem_nil, or_false] at hx; rcases hx with rfl | rfl <;> assumption
  unfold bothP; rw [onOf_sym hr hs hx']
theorem mb_left {p q r s a c : Int × Int} (hp : rtP p = true) (hq : rtP q = true) (hr : rtP r = true) (hs : rtP s = true) (ha : rtP a = true) (hc : rtP c = true) : mbP q.1 q.2 p.1 p.2 r.1 r.2 s.1 s.2 [c, a] = mbP p.1 p.2 q.1 q.2 r.1 r.2 s.1 s.2 [a, c] := by
  unfold mbP
  rw [(lmeet_flip hp hq hr hs).2, any_both (qs := [a, c]) (g := bothP p.1 p.2 q.1 q.2 r.1 r.2 s.1 s.2) ?_ (fun x => by simp only [List.mem_cons, List.not_mem_nil, or_false]; exact Or.comm)]
  intro x hx
  have hx' : rtP x = true := by simp only [List.mem_cons, List.not_mem_nil, or_false] at hx; rcases hx with rfl | rfl <;> assumption
  unfold bothP; rw [onOf_sym hp hq hx']
/-- Touches, in plain words. -/
theorem touch_iff (a b c d e : Int × Int) : touchP a b c d e = true ↔ ((rtP a = true ∧ rtP b = true ∧ rtP c = true ∧ rtP d = true ∧ rtP e = true) ∧ nearP (bdr a b c) [d, e] = true ∧
    (hitP a b c d = true ∨ hitP a b c e = true ∨ mbP a.1 a.2 b.1 b.2 d.1 d.2 e.1 e.2 [a, c] = true ∨ mbP b.1 b.2 c.1 c.2 d.1 d.2 e.1 e.2 [a, c] = true ∨ mbP c.1 c.2 a.1 a.2 d.1 d.2 e.1 e.2 [a, c] = true)) := by
  have h3 : anyTo (tbK a b c d e) 3 = true ↔ (mbP a.1 a.2 b.1 b.2 d.1 d.2 e.1 e.2 [a, c] = true ∨ mbP b.1 b.2 c.1 c.2 d.1 d.2 e.1 e.2 [a, c] = true ∨ mbP c.1 c.2 a.1 a.2 d.1 d.2 e.1 e.2 [a, c] = true) := by
    rw [anyTo, anyTo, anyTo, anyTo, Bool.false_or, Bool.or_eq_true, Bool.or_eq_true, or_assoc]; exact Iff.rfl
  unfold touchP
  rw [Bool.and_eq_true, Bool.and_eq_true, Bool.or_eq_true, Bool.or_eq_true, h3, all5]
theorem touch_de1 {a b c d e : Int × Int} (h : touchP a b c d e = true) : touchP a b c e d = true := by
  rw [touch_iff] at *
  obtain ⟨⟨ra, rb, rc, rd, re⟩, h1, h2⟩ := h
  refine ⟨⟨ra, rb, rc, re, rd⟩, ?_, ?_⟩
  · unfold nearP at *; rw [bxo_flip2 rd re]; exact h1
  · rw [mb_right ra rb rd re ra rc, mb_right rb rc rd re ra rc, mb_right rc ra rd re ra rc]
    rcases h2 with h | h | h
    · exact .inr (.inl h)
    · exact .inl h
    · exact .inr (.inr h)
theorem touch_de (a b c d e : Int × Int) : touchP a b c e d = touchP a b c d e := by rw [Bool.eq_iff_iff]; exact ⟨touch_de1, touch_de1⟩
theorem hit_flip (a b c x : Int × Int) : hitP c b a x = hitP a b c x := by
  unfold hitP; rw [in_flip, Bool.and_left_comm]
theorem touch_ca1 {a b c d e : Int × Int} (h : touchP a b c d e = true) : touchP c b a d e = true := by
  rw [touch_iff] at *
  obtain ⟨⟨ra, rb, rc, rd, re⟩, h1, h2⟩ := h
  refine ⟨⟨rc, rb, ra, rd, re⟩, ?_, ?_⟩
  · rw [near_bdr rc rb ra]; rw [near_bdr ra rb rc] at h1; unfold nearP at *; rw [bxo_flip3 ra rb rc]; exact h1
  · rw [hit_flip a b c d, hit_flip a b c e, mb_left rb rc rd re ra rc, mb_left ra rb rd re ra rc, mb_left rc ra rd re ra rc]
    rcases h2 with h | h | h | h | h
    · exact .inl h
    · exact .inr (.inl h)
    · exact .inr (.inr (.inr (.inl h)))
    · exact .inr (.inr (.inl h))
    · exact .inr (.inr (.inr (.inr h)))
theorem touch_ca (a b c d e : Int × Int) : touchP c b a d e = touchP a b c d e := by rw [Bool.eq_iff_iff]; exact ⟨touch_ca1, touch_ca1⟩
theorem touch_in {a b c d e : Int × Int} (he : rtP e = true) (h : inP a b c d = true) (h1 : eqP d a = false) (h2 : eqP d c = false) : touchP a b c d e = true := by
  rw [touch_iff]
  have h3 := near_in he h
  have h4 := h
  rw [inP_iff, all4] at h
  exact ⟨⟨h.1.1, h.1.2.1, h.1.2.2.1, h.1.2.2.2, he⟩, h3, .inl (by unfold hitP; rw [h1, h2, h4]; rfl)⟩
theorem touch_near {a b c d e : Int × Int} (h : touchP a b c d e = true) : nearP [a, b, c] [d, e] = true := by
  rw [touch_iff] at h
  rw [← near_bdr h.1.1 h.1.2.1 h.1.2.2.1]; exact h.2.1

end Go.Proofs.Ytkejilomempogaa
