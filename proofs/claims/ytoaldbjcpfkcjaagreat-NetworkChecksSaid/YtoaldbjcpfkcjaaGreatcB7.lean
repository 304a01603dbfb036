/- The two square roots: what each returns is the greatest number whose square is not greater. More words for the walks of the laws. More words for the walks of the laws. Words for the walks of line: points in memory, what a round keeps. line: small functions on lists. line: whether a list is closed. line: borders, ends, joints, boxes that are near, and how often two segments meet. Words for regions that make memory in any order. Whether something holds for one of the first k. -/
import Derived.Test.YtoaldbjcpfkcjaaGreatcB1
import Derived.Test.YtoaldbjcpfkcjaaGreatcB6
import Derived.Test.YtoaldbjcpfkcjaaGreatcB3
import Derived.Test.YtoaldbjcpfkcjaaGreatcB5
namespace Go.Proofs.YtoaldbjcpfkcjaaGreat
open Go.RowKit Go.Lib

/-- The root of a natural number, rounded down, by counting. -/
def isq : Nat → Nat
 | 0 => 0
 | n + 1 => if (isq n + 1) * (isq n + 1) ≤ n + 1 then isq n + 1 else isq n

theorem isq_spec (n : Nat) : isq n * isq n ≤ n ∧ n < (isq n + 1) * (isq n + 1) := by
 induction n with
 | zero => simp [isq]
 | succ n ih =>
  unfold isq
  split
  ·rename_i h
   refine ⟨h, ?_⟩
   have : (isq n + 1 + 1) * (isq n + 1 + 1) = (isq n + 1) * (isq n + 1) + 2 * (isq n + 1) + 1 := by simp only [Nat.add_mul, Nat.mul_add]; omega
   omega
  ·omega

theorem root_unique (n s t : Nat) (h1 : s * s ≤ n) (h2 : n < (s + 1) * (s + 1)) (k1 : t * t ≤ n) (k2 : n < (t + 1) * (t + 1)) : s = t := by
 rcases Nat.lt_trichotomy s t with h | h | h
 ·have := Nat.mul_le_mul (show s + 1 ≤ t from h) (show s + 1 ≤ t from h); omega
 ·exact h
 ·have := Nat.mul_le_mul (show t + 1 ≤ s from h) (show t + 1 ≤ s from h); omega

/-- What Sqrt answers. -/
def rootOf (n : Int) : Int := if n < 0 then 0 else (isq n.toNat : Nat)

theorem rootOf_is {n s : Nat} (h1 : s * s ≤ n) (h2 : n < (s + 1) * (s + 1)) : (s : Int) = rootOf (n : Int) := by
 unfold rootOf
 rw [if_neg (by omega), Int.toNat_natCast]
 have := root_unique n s (isq n) h1 h2 (isq_spec n).1 (isq_spec n).2
 omega

/-- A step of the search, bit by bit: either the bit belongs to the root, or it doesn't. -/
theorem bit_or (r j : Nat) : r * 2 ^ (j + 1) ||| 2 ^ j = r * 2 ^ (j + 1) + 2 ^ j := by
 have h := Nat.two_pow_add_eq_or_of_lt (i := j + 1) (b := 2 ^ j) (Nat.pow_lt_pow_right (by omega) (by omega)) r
 rw [Nat.mul_comm, ← h]

/-- How the search stands after k bits: R is the root's upper bits, b the next bit, B its double. -/
def St (n k R B b : Nat) : Prop := B = 2 ^ (32 - k) ∧ b = B / 2 ∧ (∃ r, R = r * B) ∧ R + B ≤ 4294967296 ∧ R * R ≤ n ∧ n < (R + B) * (R + B)

theorem St.start (n : Nat) (h : (n : Int) ≤ 9223372036854775807) : St n 0 0 4294967296 2147483648 :=
 ⟨rfl, rfl, ⟨0, by omega⟩, by omega, by omega, by omega⟩

theorem St.bit {n k R B b : Nat} (h : St n k R B b) (hk : k < 32) : b = 2 ^ (31 - k) ∧ B = 2 * b ∧ 0 < b ∧ R ||| b = R + b ∧ R + b < 4294967296 := by
 obtain ⟨h1, h2, ⟨r, h3⟩, h4, _, _⟩ := h
 have e : B = 2 * 2 ^ (31 - k) := by rw [h1, ← Nat.pow_succ']; congr 1; omega
 have e2 : b = 2 ^ (31 - k) := by omega
 have p : 0 < 2 ^ (31 - k) := Nat.pow_pos (by omega)
 refine ⟨e2, by omega, by omega, ?_, by omega⟩
 have := bit_or r (31 - k)
 rw [show 31 - k + 1 = 32 - k by omega, ← h1, ← e2, ← h3] at this
 exact this

theorem St.yes {n k R B b : Nat} (h : St n k R B b) (hk : k < 32) (hq : (R + b) * (R + b) ≤ n) : St n (k + 1) (R + b) b (b / 2) := by
 obtain ⟨g1, g2, g3, _, _⟩ := h.bit hk
 obtain ⟨_, _, ⟨r, h3⟩, h4, _, h6⟩ := h
 refine ⟨by rw [g1, show 32 - (k + 1) = 31 - k by omega], rfl, ⟨2 * r + 1, ?_⟩, by omega, hq, ?_⟩
 ·rw [h3, g2, Nat.add_mul, Nat.one_mul, Nat.mul_comm 2 r, Nat.mul_assoc]
 ·rw [show R + b + b = R + B by omega]; exact h6

theorem St.no {n k R B b : Nat} (h : St n k R B b) (hk : k < 32) (hq : n < (R + b) * (R + b)) : St n (k + 1) R b (b / 2) := by
 obtain ⟨g1, g2, g3, _, _⟩ := h.bit hk
 obtain ⟨_, _, ⟨r, h3⟩, h4, h5, _⟩ := h
 refine ⟨by rw [g1, show 32 - (k + 1) = 31 - k by omega], rfl, ⟨2 * r, ?_⟩, by omega, h5, hq⟩
 rw [h3, g2, Nat.mul_comm 2 r, Nat.mul_assoc]

theorem St.last {n R B b : Nat} (h : St n 32 R B b) : b = 0 ∧ R ≤ 4294967295 ∧ (R : Int) = rootOf n := by
 obtain ⟨h1, h2, _, h4, h5, h6⟩ := h
 simp at h1
 subst h1
 exact ⟨by omega, by omega, rootOf_is h5 h6⟩

end Go.Proofs.YtoaldbjcpfkcjaaGreat

namespace Go.Proofs.YtoaldbjcpfkcjaaGreat
open Go.RowKit Go.Lib

theorem ron_is (a0 a1 b0 b1 p0 p1 : Int) (r : Bool) (h : onOf a0 a1 b0 b1 p0 p1 = r) (w : World) :
  Calls Tryz.prog 77 #[.agg #[.int .i64 a0, .int .i64 a1], .agg #[.int .i64 b0, .int .i64 b1], .agg #[.int .i64 p0, .int .i64 p1]] w fun e w' => e = .returned (.bool r) ∧ Below w.heap.size w w' := by
 have := ron_any a0 a1 b0 b1 p0 p1 w
 rw [Geo.on_same, h] at this
 exact this

end Go.Proofs.YtoaldbjcpfkcjaaGreat

namespace Go.Proofs.YtoaldbjcpfkcjaaGreat
open Go.RowKit Go.Lib

end Go.Proofs.YtoaldbjcpfkcjaaGreat

namespace Go.Proofs.YtoaldbjcpfkcjaaGreat
open Go.RowKit Go.Lib

def rtP (p : Int × Int) : Bool := inl 16384 p.1 p.2

theorem RowP.len {w : World} {a : Option Addr} {n c : Nat} {ps : List (Int × Int)} (h : RowP w (.slice a n c) ps) : n = ps.length ∧ ps.length ≤ c ∧ (c : Int) ≤ 9223372036854775807 := by
 obtain ⟨a', c', h1, h2, h3, -⟩ := h
 injection h1 with _ e2 e3
 subst e3
 exact ⟨e2, h2, h3⟩
theorem RowP.spot {w : World} {a : Option Addr} {n c : Nat} {ps : List (Int × Int)} (h : RowP w (.slice a n c) ps) (hp : 0 < ps.length) :
  ∃ b o, a = some ⟨b, o, none⟩ ∧ ∀ i p, ps[i]? = some p → w.cell? ⟨b, o + i * 2, none⟩ = some (.int .i64 p.1) ∧ w.cell? ⟨b, o + i * 2 + 1, none⟩ = some (.int .i64 p.2) := by
 obtain ⟨a', c', h1, h2, h3, h4⟩ := h
 injection h1 with e1 _ _
 subst e1
 rcases h4 with rfl | h4
 ·simp at hp
 ·exact h4
/-- The cells of the i-th point. -/
theorem RowP.cells {w : World} {b o n c : Nat} {ps : List (Int × Int)} (h : RowP w (.slice (some ⟨b, o, none⟩) n c) ps) {i : Nat} {x y : Int} (hi : ps[i]? = some (x, y)) :
  w.cell? ⟨b, o + i * 2, none⟩ = some (.int .i64 x) ∧ w.cell? ⟨b, o + i * 2 + 1, none⟩ = some (.int .i64 y) := by
 obtain ⟨b', o', e, hq⟩ := h.spot (by have := (List.getElem?_eq_some_iff.1 hi).1; omega)
 injection e with e
 injection e with e1 e2
 subst e1 e2
 exact hq i _ hi
theorem some_pt {ps : List (Int × Int)} {k : Nat} (h : k < ps.length) : ∃ x y, ps[k]? = some (x, y) := ⟨_, _, List.getElem?_eq_getElem h⟩
theorem pt_of {ps : List (Int × Int)} {k : Nat} {x y : Int} (h : ps[k]? = some (x, y)) : pt ps k = (x, y) := by unfold pt; rw [h]; rfl
theorem at_pt {ps : List (Int × Int)} {k : Nat} (h : k < ps.length) : ps[k]? = some (pt ps k) := by unfold pt; rw [List.getElem?_eq_getElem h]; rfl

theorem keeps_grows {B : Nat} {A W : World} (g : Grows A W) : KeepsFrom B A W :=
 ⟨g.size, fun _ _ _ h _ => heap_grows g h⟩
theorem keeps_set {B : Nat} (W : World) (a : Addr) (v : Value) : KeepsFrom B W (W.setCell a v) := (KeepsOthers.setCell W a v).from B

/-- What a round has: blocks of the call's own, and what is no cells lies as it lay. -/
structure HK (w : World) (B : Nat) (A : World) (bs : List (Nat × List Value)) (W : World) : Prop where
 h : Has w bs W
 k : KeepsFrom B A W
section
variable {w A W W' : World} {B : Nat} {bs : List (Nat × List Value)}
theorem HK.start (h : Has w bs A) : HK w B A bs A := ⟨h, KeepsFrom.refl _ _⟩
theorem HK.later (h : HK w B A bs W) (g : Below W.heap.size W W') : HK w B A bs W' := ⟨h.h.later g, h.k.trans (keeps_grows g)⟩
theorem HK.drew (h : HK w B A bs W) : HK w B A bs W.drew := h.later ((Below.refl _ W).drew)
theorem HK.push (h : HK w B A bs W) (xs : List Value) (T : TypeId) : HK w B A ((W.heap.size, xs) :: bs) (W.alloc (.cells xs.toArray T)) := ⟨h.h.push xs T, h.k.trans (keeps_grows ((Below.refl _ W).alloc (Nat.le_refl _) _))⟩
theorem HK.set {b : Nat} {xs : List Value} (h : HK w B A ((b, xs) :: bs) W) (k : Nat) (hk : k < xs.length) (u : Value) : HK w B A ((b, xs.set k u) :: bs) (W.setCell ⟨b, k, none⟩ u) := ⟨h.h.set k hk u, h.k.trans (keeps_set _ _ _)⟩
theorem HK.set2 {b : Nat} {u v : Value} (h : HK w B A ((b, [u, v]) :: bs) W) (x y : Value) : HK w B A ((b, [x, y]) :: bs) ((W.setCell ⟨b, 0, none⟩ x).setCell ⟨b, 1, none⟩ y) := ⟨h.h.set2 x y, (h.k.trans (keeps_set _ _ _)).trans (keeps_set _ _ _)⟩
theorem HK.set4 {b : Nat} {u v t r : Value} (h : HK w B A ((b, [u, v, t, r]) :: bs) W) (x y z q : Value) : HK w B A ((b, [x, y, z, q]) :: bs) ((((W.setCell ⟨b, 0, none⟩ x).setCell ⟨b, 1, none⟩ y).setCell ⟨b, 2, none⟩ z).setCell ⟨b, 3, none⟩ q) :=
 (((h.set 0 (by simp) x).set 1 (by simp) y).set 2 (by simp) z).set 3 (by simp) q
theorem HK.perm {cs : List (Nat × List Value)} (h : HK w B A bs W) (hp : bs.Perm cs) : HK w B A cs W := ⟨h.h.perm hp, h.k⟩
theorem HK.swap {p q : Nat × List Value} (h : HK w B A (p :: q :: bs) W) : HK w B A (q :: p :: bs) W := ⟨h.h.swap, h.k⟩
theorem HK.tail {p : Nat × List Value} (h : HK w B A (p :: bs) W) : HK w B A bs W := ⟨h.h.tail, h.k⟩
end
theorem HK.call {w A W : World} {B : Nat} {bs : List (Nat × List Value)} {k : FuncId} {args : Array Value} {E : Ending} {P : Program} (h : HK w B A bs W) (hc : Calls P k args W fun e w' => e = E ∧ Below W.heap.size W w') : Calls P k args W fun e w' => e = E ∧ HK w B A bs w' :=
 hc.mono fun _ _ ⟨h1, h2⟩ => ⟨h1, h.later h2⟩
/-- A call in a round. -/
theorem round_call {l n : Nat} {k : FuncId} {args : Array Value} {W : World} {R : Ending → World → Prop} (h : Calls Tryz.prog k args W R) : CallsIn (Fence.wide.inRound l) n Tryz.prog k args W R := CallsIn.inRound l (callsIn_wide.2 h)
theorem Has.set4 {w0 w : World} {bs : List (Nat × List Value)} {b : Nat} {u v t r : Value} (h : Has w0 ((b, [u, v, t, r]) :: bs) w) (x y z q : Value) : Has w0 ((b, [x, y, z, q]) :: bs) ((((w.setCell ⟨b, 0, none⟩ x).setCell ⟨b, 1, none⟩ y).setCell ⟨b, 2, none⟩ z).setCell ⟨b, 3, none⟩ q) :=
 (((h.set 0 (by simp) x).set 1 (by simp) y).set 2 (by simp) z).set 3 (by simp) q
end Go.Proofs.YtoaldbjcpfkcjaaGreat

namespace Go.Proofs.YtoaldbjcpfkcjaaGreat
open Go.RowKit Go.Lib

theorem pright_is (x y : Int) (r : Bool) (h : inl 16384 x y = r) (w : World) :
  Calls Tryz.prog 118 #[.agg #[.int .i64 x, .int .i64 y]] w fun e w' => e = .returned (.bool r) ∧ Below w.heap.size w w' := h ▸ right_any x y w
theorem rpright_is (x y : Int) (r : Bool) (h : inl 16384 x y = r) (w : World) :
  Calls Tryz.prog 92 #[.agg #[.int .i64 x, .int .i64 y]] w fun e w' => e = .returned (.bool r) ∧ Below w.heap.size w w' := h ▸ rright_any x y w

theorem all_next {ps : List (Int × Int)} {k : Nat} {x y : Int} (h : ps[k]? = some (x, y)) (ha : (ps.take k).all rtP = true) (hr : inl 16384 x y = true) : (ps.take (k + 1)).all rtP = true := by
 rw [List.take_add_one, h, List.all_append, ha]
 simp [rtP, hr]
theorem all_stop {ps : List (Int × Int)} {k : Nat} {x y : Int} (h : ps[k]? = some (x, y)) (hr : inl 16384 x y = false) : false = ps.all rtP := by
 symm
 rw [List.all_eq_false]
 exact ⟨(x, y), List.mem_of_getElem? h, by simp [rtP, hr]⟩
theorem all_end {ps : List (Int × Int)} {k : Nat} (h : k = ps.length) (ha : (ps.take k).all rtP = true) : true = ps.all rtP := by
 subst h; rw [List.take_length] at ha; exact ha.symm

set_option maxHeartbeats 1000000 in
theorem rights_any (v : Value) (ps : List (Int × Int)) (w : World) (hv : RowP w v ps) :
  Calls Tryz.prog 86 #[v] w fun e w' => e = .returned (.bool (ps.all rtP)) ∧ Below w.heap.size w w' := by
 have hv0 := hv
 obtain ⟨a, cap, rfl, hc1, hc2, -⟩ := hv0
 obtain ⟨m, hm⟩ : ∃ m, ps.length = m := ⟨_, rfl⟩
 rw [hm] at hv hc1 ⊢
 have HV := Lib.hid hv
 have HM := Lib.hid hm
 clear hv hm
 go_enter Tryz.func86, Tryz.ntmps86
 go_wp2_with fail
 go_loopw [7] (fun i wr => ∃ k : Nat, k ≤ m ∧ i = .int .i64 k ∧ Hid ((ps.take k).all rtP = true) ∧ Grows w wr) (fun i _ => m - (RowKit.intOf i).toNat)
 case atStart => exact ⟨0, Nat.zero_le _, rfl, Lib.hid rfl, Below.refl _ _⟩
 case round =>
  obtain ⟨k, hk, rfl, HA, hG⟩ := hrel
  by_cases hlt : k < m
  ·have hR := HV.out.later hG
   obtain ⟨b, o, rfl, -⟩ := hR.spot (by rw [HM.out]; omega)
   obtain ⟨x, y, hp⟩ := some_pt (ps := ps) (k := k) (by rw [HM.out]; exact hlt)
   obtain ⟨c0, c1⟩ := hR.cells hp
   have HP := Lib.hid hp
   clear hp hR
   have E := has1 (w := wr) [.int .i64 x, .int .i64 y] 37
   change Has wr _ (wr.alloc (.cells #[.int .i64 x, .int .i64 y] 37)) at E
   obtain ⟨k0, k1⟩ := E.pt
   cases hr : inl 16384 x y
   ·have HR := Lib.hid hr
    clear hr
    go_wp2_with fail
    refine (Has.call E (pright_is x y _ HR.out _)).mono ?_
    rintro e z1 ⟨rfl, E1⟩
    clear k0 k1 c0 c1 E
    go_wp2_with fail
    go_ret
    exact ⟨ret_b (all_stop HP.out HR.out), hG.then E1.low⟩
   ·have HR := Lib.hid hr
    clear hr
    go_wp2_with fail
    refine (Has.call E (pright_is x y _ HR.out _)).mono ?_
    rintro e z1 ⟨rfl, E1⟩
    clear k0 k1 c0 c1 E
    go_wp2_with fail
    go_roundw
    case rel => exact ⟨k + 1, by omega, by go_num, Lib.hid (all_next HP.out HA.out HR.out), hG.then E1.low⟩
    case measure => simp [RowKit.intOf]; omega
  ·obtain rfl : k = m := by omega
   go_wp2_with fail
   go_ret
   exact ⟨ret_b (all_end HM.out.symm HA.out), hG⟩

end Go.Proofs.YtoaldbjcpfkcjaaGreat

namespace Go.Proofs.YtoaldbjcpfkcjaaGreat
open Go.RowKit Go.Lib

set_option maxHeartbeats 1000000 in
theorem fine_any (v : Value) (ps : List (Int × Int)) (w : World) (hv : RowP w v ps) :
  Calls Tryz.prog 61 #[v] w fun e w' => e = .returned (.bool (ps.all rtP)) ∧ Below w.heap.size w w' := by
 have hv0 := hv
 obtain ⟨a, cap, rfl, hc1, hc2, -⟩ := hv0
 obtain ⟨m, hm⟩ : ∃ m, ps.length = m := ⟨_, rfl⟩
 rw [hm] at hv hc1 ⊢
 have HV := Lib.hid hv
 have HM := Lib.hid hm
 clear hv hm
 go_enter Tryz.func61, Tryz.ntmps61
 go_wp2_with fail
 go_loopw [3] (fun i wr => ∃ k : Nat, k ≤ m ∧ i = .int .i64 k ∧ Hid ((ps.take k).all rtP = true) ∧ Grows w wr) (fun i _ => m - (RowKit.intOf i).toNat)
 case atStart => exact ⟨0, Nat.zero_le _, rfl, Lib.hid rfl, Below.refl _ _⟩
 case round =>
  obtain ⟨k, hk, rfl, HA, hG⟩ := hrel
  by_cases hlt : k < m
  ·have hR := HV.out.later hG
   obtain ⟨b, o, rfl, -⟩ := hR.spot (by rw [HM.out]; omega)
   obtain ⟨x, y, hp⟩ := some_pt (ps := ps) (k := k) (by rw [HM.out]; exact hlt)
   obtain ⟨c0, c1⟩ := hR.cells hp
   have HP := Lib.hid hp
   clear hp hR
   cases hr : inl 16384 x y
   ·have HR := Lib.hid hr
    clear hr
    go_wp2_with fail
    refine (rpright_is x y _ HR.out _).mono ?_
    rintro e z1 ⟨rfl, g1⟩
    clear c0 c1
    go_wp2_with fail
    go_ret
    exact ⟨ret_b (all_stop HP.out HR.out), hG.then g1⟩
   ·have HR := Lib.hid hr
    clear hr
    go_wp2_with fail
    refine (rpright_is x y _ HR.out _).mono ?_
    rintro e z1 ⟨rfl, g1⟩
    clear c0 c1
    go_wp2_with fail
    go_roundw
    case rel => exact ⟨k + 1, by omega, by go_num, Lib.hid (all_next HP.out HA.out HR.out), hG.then g1⟩
    case measure => simp [RowKit.intOf]; omega
  ·obtain rfl : k = m := by omega
   go_wp2_with fail
   go_ret
   exact ⟨ret_b (all_end HM.out.symm HA.out), hG⟩

/-- Whether a list ends where it begins. -/
def closedP (ps : List (Int × Int)) : Bool := decide (4 ≤ ps.length) && decide (pt ps 0 = pt ps (ps.length - 1))
theorem closedP_is {ps : List (Int × Int)} {x y x' y' : Int} (h4 : 4 ≤ ps.length) (hp : ps[0]? = some (x, y)) (hq : ps[ps.length - 1]? = some (x', y')) : closedP ps = decide ((x, y) = (x', y')) := by
 unfold closedP; rw [pt_of hp, pt_of hq, decide_eq_true h4]; rfl
/-- Two points: equal, or one of the coordinates is not. -/
theorem eq3 (x y x' y' : Int) : ((x == x') = true ∧ (y == y') = true ∧ decide ((x, y) = (x', y')) = true) ∨ ((x == x') = true ∧ (y == y') = false ∧ decide ((x, y) = (x', y')) = false) ∨ ((x == x') = false ∧ decide ((x, y) = (x', y')) = false) := by
 by_cases h : x = x' <;> by_cases k : y = y' <;> simp [h, k]

set_option maxHeartbeats 1000000 in
theorem closed_any (v : Value) (ps : List (Int × Int)) (w : World) (hv : RowP w v ps) :
  Calls Tryz.prog 139 #[v] w fun e w' => e = .returned (.bool (closedP ps)) ∧ Below w.heap.size w w' := by
 have hv0 := hv
 obtain ⟨a, cap, rfl, hc1, hc2, -⟩ := hv0
 by_cases h4 : 4 ≤ ps.length
 ·obtain ⟨b, o, rfl, -⟩ := hv.spot (by omega)
  obtain ⟨x, y, hp⟩ := some_pt (ps := ps) (k := 0) (by omega)
  obtain ⟨x', y', hq⟩ := some_pt (ps := ps) (k := ps.length - 1) (by omega)
  obtain ⟨c0, c1⟩ := hv.cells hp
  obtain ⟨c2, c3⟩ := hv.cells hq
  have hR := closedP_is h4 hp hq
  obtain ⟨m, hm⟩ : ∃ m, ps.length = m + 4 := ⟨ps.length - 4, by omega⟩
  rw [hm] at c2 c3 hc1 ⊢
  rw [show m + 4 - 1 = m + 3 by omega] at c2 c3
  clear hm hp hq hv h4
  have s1 : ((m : Int) + 4 - 1) = ((m + 3 : Nat) : Int) := by omega
  have s2 : IntKind.i64.wrap ((m : Int) + 4 - 1) = ((m + 3 : Nat) : Int) := by rw [IntWalk.i64_in _ (by omega)]; omega
  have s3 : decide ((4 : Int) ≤ (m : Int) + 4) = true := decide_eq_true (by omega)
  have s4 : (0 : Int) < (m : Int) + 4 := by omega
  have s5 : ((m + 3 : Nat) : Int) < (m : Int) + 4 := by omega
  have s6 : (m : Int) + 3 < (m : Int) + 4 := by omega
  simp only [Nat.zero_mul, Nat.add_zero] at c0 c1
  rcases eq3 x y x' y' with ⟨e1, e2, e3⟩ | ⟨e1, e2, e3⟩ | ⟨e1, e3⟩
  all_goals
   rw [e3] at hR
   have HR := Lib.hid hR
   clear hR e3
   go_enter Tryz.func139, Tryz.ntmps139
   go_wp2_with fail
   go_region
   go_wp2_with fail
   go_ret
   exact ⟨ret_b HR.out.symm, by go_grown⟩
 ·have HR := Lib.hid (show closedP ps = false by unfold closedP; simp; omega)
  have s3 : decide ((4 : Int) ≤ (ps.length : Int)) = false := by simp; omega
  go_enter Tryz.func139, Tryz.ntmps139
  go_wp2_with fail
  go_region
  go_wp2_with fail
  go_ret
  exact ⟨ret_b HR.out.symm, by go_grown⟩

set_option maxHeartbeats 1000000 in
theorem rclosed_any (v : Value) (ps : List (Int × Int)) (w : World) (hv : RowP w v ps) :
  Calls Tryz.prog 62 #[v] w fun e w' => e = .returned (.bool (closedP ps)) ∧ Below w.heap.size w w' := by
 have hv0 := hv
 obtain ⟨a, cap, rfl, hc1, hc2, -⟩ := hv0
 by_cases h4 : 4 ≤ ps.length
 ·obtain ⟨b, o, rfl, -⟩ := hv.spot (by omega)
  obtain ⟨x, y, hp⟩ := some_pt (ps := ps) (k := 0) (by omega)
  obtain ⟨x', y', hq⟩ := some_pt (ps := ps) (k := ps.length - 1) (by omega)
  obtain ⟨c0, c1⟩ := hv.cells hp
  obtain ⟨c2, c3⟩ := hv.cells hq
  have hR := closedP_is h4 hp hq
  obtain ⟨m, hm⟩ : ∃ m, ps.length = m + 4 := ⟨ps.length - 4, by omega⟩
  rw [hm] at c2 c3 hc1 ⊢
  rw [show m + 4 - 1 = m + 3 by omega] at c2 c3
  clear hm hp hq hv h4
  have s1 : ((m : Int) + 4 - 1) = ((m + 3 : Nat) : Int) := by omega
  have s2 : IntKind.i64.wrap ((m : Int) + 4 - 1) = ((m + 3 : Nat) : Int) := by rw [IntWalk.i64_in _ (by omega)]; omega
  have s3 : decide ((4 : Int) ≤ (m : Int) + 4) = true := decide_eq_true (by omega)
  have s4 : (0 : Int) < (m : Int) + 4 := by omega
  have s5 : ((m + 3 : Nat) : Int) < (m : Int) + 4 := by omega
  have s6 : (m : Int) + 3 < (m : Int) + 4 := by omega
  simp only [Nat.zero_mul, Nat.add_zero] at c0 c1
  rcases eq3 x y x' y' with ⟨e1, e2, e3⟩ | ⟨e1, e2, e3⟩ | ⟨e1, e3⟩
  all_goals
   rw [e3] at hR
   have HR := Lib.hid hR
   clear hR e3
   go_enter Tryz.func62, Tryz.ntmps62
   go_wp2_with fail
   go_region
   go_wp2_with fail
   go_ret
   exact ⟨ret_b HR.out.symm, by go_grown⟩
 ·have HR := Lib.hid (show closedP ps = false by unfold closedP; simp; omega)
  have s3 : decide ((4 : Int) ≤ (ps.length : Int)) = false := by simp; omega
  go_enter Tryz.func62, Tryz.ntmps62
  go_wp2_with fail
  go_region
  go_wp2_with fail
  go_ret
  exact ⟨ret_b HR.out.symm, by go_grown⟩

end Go.Proofs.YtoaldbjcpfkcjaaGreat

namespace Go.Proofs.YtoaldbjcpfkcjaaGreat
open Go.RowKit Go.Lib

/-- The cells of points. -/
def flat : List (Int × Int) → List Value
 | [] => []
 | p :: t => .int .i64 p.1 :: .int .i64 p.2 :: flat t
theorem flat_at : ∀ {ps : List (Int × Int)} {i : Nat} {p : Int × Int}, ps[i]? = some p → (flat ps)[i * 2]? = some (.int .i64 p.1) ∧ (flat ps)[i * 2 + 1]? = some (.int .i64 p.2)
 | [], i, p, h => by simp at h
 | q :: t, 0, p, h => by simp at h; subst h; exact ⟨rfl, rfl⟩
 | q :: t, i + 1, p, h => by
  simp at h
  rw [show (i + 1) * 2 = i * 2 + 1 + 1 by omega]
  exact flat_at h
theorem RowP.block {W : World} {b c : Nat} {ps : List (Int × Int)} (h : Cells W b (flat ps)) (h1 : ps.length ≤ c) (h2 : (c : Int) ≤ 9223372036854775807) : RowP W (.slice (some ⟨b, 0, none⟩) ps.length c) ps :=
 ⟨_, c, rfl, h1, h2, .inr ⟨b, 0, rfl, fun i p hp => by
  rw [Nat.zero_add]
  exact ⟨(h _ _ (flat_at hp).1).1, (h _ _ (flat_at hp).2).1⟩⟩⟩
theorem Has.cells {w W : World} {b : Nat} {xs : List Value} {bs : List (Nat × List Value)} (h : Has w ((b, xs) :: bs) W) : Cells W b xs := h.c _ (.head _)

/-- The ends of a list. -/
def endsP (ps : List (Int × Int)) : List (Int × Int) := if ps.length = 0 then [] else [pt ps 0, pt ps (ps.length - 1)]
/-- How many points two segments of a list are to have in common. -/
def wantP (ps : List (Int × Int)) (i j : Nat) : Int := if j = i + 1 ∨ closedP ps = true ∧ i = 0 ∧ j + 2 = ps.length then 1 else 0
theorem wantP_next {ps : List (Int × Int)} {i j : Nat} (h : j = i + 1) : 1 = wantP ps i j := by unfold wantP; rw [if_pos (.inl h)]
theorem wantP_open {ps : List (Int × Int)} {i j : Nat} (h : ¬ j = i + 1) (k : closedP ps = false) : 0 = wantP ps i j := by unfold wantP; rw [if_neg (by rw [k]; simp; exact h)]
theorem wantP_far {ps : List (Int × Int)} {i j : Nat} (h : ¬ j = i + 1) (k : ¬ i = 0) : 0 = wantP ps i j := by unfold wantP; rw [if_neg (by omega)]
theorem wantP_mid {ps : List (Int × Int)} {i j : Nat} (h : ¬ j = i + 1) (k : ¬ j + 2 = ps.length) : 0 = wantP ps i j := by unfold wantP; rw [if_neg (by omega)]
theorem wantP_last {ps : List (Int × Int)} {i j : Nat} (k : closedP ps = true) (h : i = 0) (l : j + 2 = ps.length) : 1 = wantP ps i j := by unfold wantP; rw [if_pos (.inr ⟨k, h, l⟩)]

theorem closed_is (v : Value) (ps : List (Int × Int)) (w : World) (hv : RowP w v ps) (r : Bool) (h : closedP ps = r) :
  Calls Tryz.prog 139 #[v] w fun e w' => e = .returned (.bool r) ∧ Below w.heap.size w w' := h ▸ closed_any v ps w hv
theorem rclosed_is (v : Value) (ps : List (Int × Int)) (w : World) (hv : RowP w v ps) (r : Bool) (h : closedP ps = r) :
  Calls Tryz.prog 62 #[v] w fun e w' => e = .returned (.bool r) ∧ Below w.heap.size w w' := h ▸ rclosed_any v ps w hv

set_option maxHeartbeats 1000000 in
theorem joints_any (v : Value) (ps : List (Int × Int)) (i j : Nat) (w : World) (hv : RowP w v ps) (hi : i < ps.length) (_hj : j < ps.length) (h2 : 2 ≤ ps.length) :
  Calls Tryz.prog 120 #[v, .int .i64 i, .int .i64 j] w fun e w' => e = .returned (.int .i64 (wantP ps i j)) ∧ Below w.heap.size w w' := by
 have hv0 := hv
 obtain ⟨a, cap, rfl, hc1, hc2, -⟩ := hv0
 have HV := Lib.hid hv
 obtain ⟨m, hm⟩ : ∃ m, ps.length = m + 2 := ⟨ps.length - 2, by omega⟩
 have s1 : IntKind.i64.wrap ((i : Int) + 1) = (i : Int) + 1 := IntWalk.i64_in _ (by omega)
 have s2 : IntKind.i64.wrap ((m : Int) + 2 - 2) = (m : Int) := by rw [IntWalk.i64_in _ (by omega)]; omega
 have s3 : (m : Int) + 2 - 2 = (m : Int) := by omega
 by_cases e1 : j = i + 1
 ·have HR := Lib.hid (wantP_next (ps := ps) e1)
  have f1 : ((j : Int) == (i : Int) + 1) = true := by rw [beq_iff_eq]; omega
  clear hv hm hi _hj h2 e1
  go_enter Tryz.func120, Tryz.ntmps120
  go_wp2_with fail
  go_ret
  exact ⟨ret_i HR.out, by go_grown⟩
 ·have f1 : ((j : Int) == (i : Int) + 1) = false := by rw [beq_eq_false_iff_ne]; omega
  cases hc : closedP ps
  ·have HR := Lib.hid (wantP_open e1 hc)
   have HC := Lib.hid hc
   clear hv hm hi _hj h2 e1 hc
   go_enter Tryz.func120, Tryz.ntmps120
   go_wp2_with fail
   refine (closed_is _ ps _ HV.out _ HC.out).mono ?_
   rintro e w1 ⟨rfl, g1⟩
   go_wp2_with fail
   go_ret
   exact ⟨ret_i HR.out, g1⟩
  ·have HC := Lib.hid hc
   by_cases e2 : i = 0
   ·subst e2
    have f0 : ((j : Int) == 1) = false := by rw [beq_eq_false_iff_ne]; omega
    by_cases e3 : j + 2 = ps.length
    ·have HR := Lib.hid (wantP_last (i := 0) (j := j) hc rfl e3)
     obtain rfl : j = m := by omega
     have f3 : ((j : Int) == (j : Int)) = true := by simp
     rw [hm] at hc1 ⊢
     rw [hm] at HV
     clear hv hi _hj h2 e1 hc hm e3
     go_enter Tryz.func120, Tryz.ntmps120
     go_wp2_with fail
     refine (closed_is _ ps _ HV.out _ HC.out).mono ?_
     rintro e w1 ⟨rfl, g1⟩
     go_wp2_with fail
     go_ret
     exact ⟨ret_i HR.out, g1⟩
    ·have HR := Lib.hid (wantP_mid e1 e3)
     have f3 : ((j : Int) == (m : Int)) = false := by rw [beq_eq_false_iff_ne]; omega
     rw [hm] at hc1 ⊢
     rw [hm] at HV
     clear hv hi _hj h2 e1 hc hm e3
     go_enter Tryz.func120, Tryz.ntmps120
     go_wp2_with fail
     refine (closed_is _ ps _ HV.out _ HC.out).mono ?_
     rintro e w1 ⟨rfl, g1⟩
     go_wp2_with fail
     go_ret
     exact ⟨ret_i HR.out, g1⟩
   ·have HR := Lib.hid (wantP_far (ps := ps) e1 e2)
    have f2 : ((i : Int) == 0) = false := by rw [beq_eq_false_iff_ne]; omega
    clear hv hm hi _hj h2 e1 hc e2
    go_enter Tryz.func120, Tryz.ntmps120
    go_wp2_with fail
    refine (closed_is _ ps _ HV.out _ HC.out).mono ?_
    rintro e w1 ⟨rfl, g1⟩
    go_wp2_with fail
    go_ret
    exact ⟨ret_i HR.out, g1⟩

/-- Whether the boxes of two lists have a common point. -/
def nearP (l m : List (Int × Int)) : Bool := nearOf (bxo l).1.1 (bxo l).1.2 (bxo l).2.1 (bxo l).2.2 (bxo m).1.1 (bxo m).1.2 (bxo m).2.1 (bxo m).2.2
theorem lnear_any (u v : Value) (l m : List (Int × Int)) (w : World) (hu : RowP w u l) (hv : RowP w v m) :
  Calls Tryz.prog 88 #[u, v] w fun e w' => e = .returned (.bool (nearP l m)) ∧ Below w.heap.size w w' := by
 have HU := Lib.hid hu
 have HV := Lib.hid hv
 clear hu hv
 obtain ⟨r, hr⟩ : ∃ r, nearP l m = r := ⟨_, rfl⟩
 rw [hr]
 have HR := Lib.hid hr
 clear hr
 unfold nearP at HR
 go_enter Tryz.func88, Tryz.ntmps88
 go_wp2_with fail
 refine (box_any u l w HU.out).mono ?_
 rintro e w1 ⟨rfl, g1⟩
 generalize (bxo l).1.1 = x0 at HR ⊢
 generalize (bxo l).1.2 = x1 at HR ⊢
 generalize (bxo l).2.1 = x2 at HR ⊢
 generalize (bxo l).2.2 = x3 at HR ⊢
 go_wp2_with fail
 refine (box_any v m w1 (HV.out.later g1)).mono ?_
 rintro e w2 ⟨rfl, g2⟩
 generalize (bxo m).1.1 = y0 at HR ⊢
 generalize (bxo m).1.2 = y1 at HR ⊢
 generalize (bxo m).2.1 = y2 at HR ⊢
 generalize (bxo m).2.2 = y3 at HR ⊢
 go_wp2_with fail
 refine (near_any x0 x1 x2 x3 y0 y1 y2 y3 w2).mono ?_
 rintro e w3 ⟨rfl, g3⟩
 go_wp2_with fail
 go_ret
 exact ⟨ret_b HR.out, (Grows.then g1 g2).then g3⟩
theorem lnear_is (u v : Value) (l m : List (Int × Int)) (w : World) (hu : RowP w u l) (hv : RowP w v m) (r : Bool) (h : nearP l m = r) :
  Calls Tryz.prog 88 #[u, v] w fun e w' => e = .returned (.bool r) ∧ Below w.heap.size w w' := h ▸ lnear_any u v l m w hu hv

theorem Has.one4 {w0 w : World} {bs : List (Nat × List Value)} {A : Nat} {a b c d : Value} {xs : List Value} (h : Has w0 ((A, a :: b :: c :: d :: xs) :: bs) w) :
  w.cell? ⟨A, 0, none⟩ = some a ∧ w.cell? ⟨A, 1, none⟩ = some b ∧ w.cell? ⟨A, 2, none⟩ = some c ∧ w.cell? ⟨A, 3, none⟩ = some d :=
 ⟨h.fact (.head _) (i := 0) rfl, h.fact (.head _) (i := 1) rfl, h.fact (.head _) (i := 2) rfl, h.fact (.head _) (i := 3) rfl⟩
theorem Has.two4 {w0 w : World} {bs : List (Nat × List Value)} {A B : Nat} {a b c d e f g k : Value} (h : Has w0 ((A, [a, b, c, d]) :: (B, [e, f, g, k]) :: bs) w) :
  w.cell? ⟨A, 0, none⟩ = some a ∧ w.cell? ⟨A, 1, none⟩ = some b ∧ w.cell? ⟨A, 2, none⟩ = some c ∧ w.cell? ⟨A, 3, none⟩ = some d ∧ w.cell? ⟨B, 0, none⟩ = some e ∧ w.cell? ⟨B, 1, none⟩ = some f ∧ w.cell? ⟨B, 2, none⟩ = some g ∧ w.cell? ⟨B, 3, none⟩ = some k := by
 obtain ⟨x0, x1, x2, x3⟩ := h.one4
 obtain ⟨y0, y1, y2, y3⟩ := h.tail.one4
 exact ⟨x0, x1, x2, x3, y0, y1, y2, y3⟩
/-- Two lists, where they are laid. -/
theorem two_rows {w w1 : World} {bs : List (Nat × List Value)} {n : Nat} (h : Has w bs w1) (hs : w1.heap.size = n) (l m : List (Int × Int)) (hl : (l.length : Int) ≤ 9223372036854775807) (hm : (m.length : Int) ≤ 9223372036854775807) :
  Has w ((n + 1, flat m) :: (n, flat l) :: bs) ((w1.alloc (.cells (flat l).toArray 37)).alloc (.cells (flat m).toArray 37)) ∧
  RowP ((w1.alloc (.cells (flat l).toArray 37)).alloc (.cells (flat m).toArray 37)) (.slice (some ⟨n, 0, none⟩) l.length l.length) l ∧
  RowP ((w1.alloc (.cells (flat l).toArray 37)).alloc (.cells (flat m).toArray 37)) (.slice (some ⟨n + 1, 0, none⟩) m.length m.length) m := by
 have h2 := (h.push (flat l) 37).push (flat m) 37
 rw [size_alloc, hs] at h2
 exact ⟨h2, RowP.block h2.tail.cells (Nat.le_refl _) hl, RowP.block h2.cells (Nat.le_refl _) hm⟩
/-- A list, where it is laid. -/
theorem one_row {w w1 : World} {bs : List (Nat × List Value)} {n : Nat} (h : Has w bs w1) (hs : w1.heap.size = n) (l : List (Int × Int)) (hl : (l.length : Int) ≤ 9223372036854775807) :
  Has w ((n, flat l) :: bs) (w1.alloc (.cells (flat l).toArray 37)) ∧ RowP (w1.alloc (.cells (flat l).toArray 37)) (.slice (some ⟨n, 0, none⟩) l.length l.length) l := by
 have h2 := h.push (flat l) 37
 rw [hs] at h2
 exact ⟨h2, RowP.block h2.cells (Nat.le_refl _) hl⟩
/-- How many points two segments have in common, as line.meet says it. -/
def lmeet (a0 a1 b0 b1 c0 c1 d0 d1 : Int) : Int := if nearP [(a0, a1), (b0, b1)] [(c0, c1), (d0, d1)] = true then meetOf a0 a1 b0 b1 c0 c1 d0 d1 else 0
set_option maxHeartbeats 1000000 in
theorem lmeet_any (a0 a1 b0 b1 c0 c1 d0 d1 : Int) (w : World) :
  Calls Tryz.prog 119 #[.agg #[.int .i64 a0, .int .i64 a1, .int .i64 b0, .int .i64 b1], .agg #[.int .i64 c0, .int .i64 c1, .int .i64 d0, .int .i64 d1]] w fun e w' => e = .returned (.int .i64 (lmeet a0 a1 b0 b1 c0 c1 d0 d1)) ∧ Below w.heap.size w w' := by
 have C0 := has2 (w := w) [.int .i64 a0, .int .i64 a1, .int .i64 b0, .int .i64 b1] [.int .i64 c0, .int .i64 c1, .int .i64 d0, .int .i64 d1] 120 120
 cases hn : nearP [(a0, a1), (b0, b1)] [(c0, c1), (d0, d1)]
 all_goals
  first
  | have HR := Lib.hid (show lmeet a0 a1 b0 b1 c0 c1 d0 d1 = meetOf a0 a1 b0 b1 c0 c1 d0 d1 by unfold lmeet; rw [if_pos hn])
  | have HR := Lib.hid (show lmeet a0 a1 b0 b1 c0 c1 d0 d1 = 0 by unfold lmeet; rw [if_neg (by rw [hn]; simp)])
  have HN := Lib.hid hn
  clear hn
  go_enter Tryz.func119, Tryz.ntmps119
  go_upto_region 1 with fail
  change Has w _ ((w.alloc (.cells #[.int .i64 a0, .int .i64 a1, .int .i64 b0, .int .i64 b1] 120)).alloc (.cells #[.int .i64 c0, .int .i64 c1, .int .i64 d0, .int .i64 d1] 120)) at C0
  have hs : ((w.alloc (.cells #[.int .i64 a0, .int .i64 a1, .int .i64 b0, .int .i64 b1] 120)).alloc (.cells #[.int .i64 c0, .int .i64 c1, .int .i64 d0, .int .i64 d1] 120)).heap.size = w.heap.size + 1 + 1 := by simp
  generalize (w.alloc (.cells #[.int .i64 a0, .int .i64 a1, .int .i64 b0, .int .i64 b1] 120)).alloc (.cells #[.int .i64 c0, .int .i64 c1, .int .i64 d0, .int .i64 d1] 120) = w1 at *
  obtain ⟨k0, k1, k2, k3, k4, k5, k6, k7⟩ := C0.two4
  obtain ⟨C2, R1, R2⟩ := two_rows C0 hs [(a0, a1), (b0, b1)] [(c0, c1), (d0, d1)] (by simp) (by simp)
  go_wp2_with fail
  change Has w _ ((w1.alloc (.cells #[.int .i64 a0, .int .i64 a1, .int .i64 b0, .int .i64 b1] 37)).alloc (.cells #[.int .i64 c0, .int .i64 c1, .int .i64 d0, .int .i64 d1] 37)) at C2
  refine (Has.call C2 (lnear_is _ _ _ _ _ R1 R2 _ HN.out)).mono ?_
  rintro e w3 ⟨rfl, C3⟩
  clear C2 R1 R2 k0 k1 k2 k3 k4 k5 k6 k7 C0 hs
  obtain ⟨k0, k1, k2, k3, k4, k5, k6, k7⟩ := C3.tail.tail.two4
  go_wp2_with fail
 ·go_ret
  exact ⟨ret_i HR.out.symm, C3.low⟩
 ·refine (Has.call C3 (meet_any _ _ _ _ _ _ _ _ _)).mono ?_
  rintro e w4 ⟨rfl, C4⟩
  go_wp2_with fail
  go_ret
  exact ⟨ret_i HR.out.symm, C4.low⟩
theorem lmeet_is (a0 a1 b0 b1 c0 c1 d0 d1 s : Int) (h : lmeet a0 a1 b0 b1 c0 c1 d0 d1 = s) (w : World) :
  Calls Tryz.prog 119 #[.agg #[.int .i64 a0, .int .i64 a1, .int .i64 b0, .int .i64 b1], .agg #[.int .i64 c0, .int .i64 c1, .int .i64 d0, .int .i64 d1]] w fun e w' => e = .returned (.int .i64 s) ∧ Below w.heap.size w w' := h ▸ lmeet_any a0 a1 b0 b1 c0 c1 d0 d1 w

end Go.Proofs.YtoaldbjcpfkcjaaGreat

namespace Go.Proofs.YtoaldbjcpfkcjaaGreat
open Go.RowKit Go.Lib

section
variable {P : Program} {md : Region.Mode} {ops : Array Oper} {Q : Exit → Act → World → Prop} {S : World → Prop}
end
/-- A block that may have been made. -/
def bl (z : List Value) : Option Nat → List (Nat × List Value) → List (Nat × List Value)
 | none, bs => bs
 | some p, bs => (p, z) :: bs
/-- Three blocks made, and three calls done, in any order. -/
structure Sta where
 a : Option Nat
 b : Option Nat
 c : Option Nat
 n : Nat
def Sta.left (x : Sta) : Nat := (3 - x.n) + (if x.a.isSome then 0 else 1) + (if x.b.isSome then 0 else 1) + (if x.c.isSome then 0 else 1)
end Go.Proofs.YtoaldbjcpfkcjaaGreat

namespace Go.Proofs.YtoaldbjcpfkcjaaGreat
open Go.RowKit Go.Lib

/-- Whether something holds for one of the first k. -/
def anyTo (f : Nat → Bool) : Nat → Bool
 | 0 => false
 | k + 1 => anyTo f k || f k
theorem anyTo_no {f : Nat → Bool} {k : Nat} (h : anyTo f k = false) (g : f k = false) : anyTo f (k + 1) = false := by rw [anyTo, h, g]; rfl
theorem anyTo_yes {f : Nat → Bool} {k n : Nat} (g : f k = true) (h : k < n) : true = anyTo f n := by
 induction n with
 | zero => omega
 | succ n ih =>
  rw [anyTo]
  rcases Nat.lt_or_ge k n with h1 | h1
  ·rw [← ih h1]; rfl
  ·obtain rfl : k = n := by omega
   rw [g, Bool.or_true]
theorem anyTo_iff {f : Nat → Bool} {n : Nat} : anyTo f n = true ↔ ∃ k, k < n ∧ f k = true := by
 constructor
 ·intro h
  induction n with
  | zero => cases h
  | succ n ih =>
   rw [anyTo, Bool.or_eq_true] at h
   rcases h with h | h
   ·obtain ⟨k, hk, e⟩ := ih h; exact ⟨k, by omega, e⟩
   ·exact ⟨n, by omega, h⟩
 ·rintro ⟨k, hk, e⟩
  exact (anyTo_yes e hk).symm
theorem rights_is (v : Value) (ps : List (Int × Int)) (w : World) (hv : RowP w v ps) (r : Bool) (h : ps.all rtP = r) :
  Calls Tryz.prog 86 #[v] w fun e w' => e = .returned (.bool r) ∧ Below w.heap.size w w' := h ▸ rights_any v ps w hv
theorem fine_is (v : Value) (ps : List (Int × Int)) (w : World) (hv : RowP w v ps) (r : Bool) (h : ps.all rtP = r) :
  Calls Tryz.prog 61 #[v] w fun e w' => e = .returned (.bool r) ∧ Below w.heap.size w w' := h ▸ fine_any v ps w hv

/-- What segments hands back, with its block. -/
theorem segs_has {w w1 : World} {bs : List (Nat × List Value)} {v : Value} {ps : List (Int × Int)} (h : Has w bs w1) (hv : RowP w1 v ps) :
  Calls Tryz.prog 90 #[v] w1 fun e w' => ∃ B, e = .returned (.func (.func 123) #[] #[.pointer (some ⟨B, 0, none⟩)]) ∧ Has w ((B, [v]) :: bs) w' := by
 obtain ⟨a, cap, rfl, -⟩ := hv
 refine (segments_any _ _ _ _).mono ?_
 rintro e w' ⟨rfl, rfl⟩
 exact ⟨_, rfl, h.push [_] 42⟩

attribute [local go_sem] Oper.semAt_some

end Go.Proofs.YtoaldbjcpfkcjaaGreat
