/- How the arguments of the network laws read as data. -/
import Derived.Test.YtoaldbjcpfkcjaaGreatcMd
import Derived.ProofKit
import Derived.OpenShut
import Derived.MakeChecks
import Derived.Lib.SmallJoins
namespace Go.Proofs.YtoaldbjcpfkcjaaGreat
open Go.ChangeShapes Go.WideShapes Go.ChangeAt Go.RowKit Go.Joins

set_option maxRecDepth 100000
theorem own : ownKnob Tryz.prog.godebug = none := by kernel_rfl
theorem laidOut : laidOutB Tryz.prog = true := by kernel_rfl
theorem cells3 : Tryz.prog.cellsOf 3 = 1 := by kernel_rfl
theorem cells4 : Tryz.prog.cellsOf 4 = 1 := by kernel_rfl
theorem some_at {α : Type} {xs : List α} {n i : Nat} (hl : xs.length = n) (hi : i < n) : ∃ x, xs[i]? = some x := ⟨_, List.getElem?_eq_getElem (by omega)⟩
theorem choose_list {α : Type} (Q : Nat → α → Prop) : ∀ (k : Nat), (∀ i, i < k → ∃ z, Q i z) → ∃ l : List α, l.length = k ∧ ∀ i z, l[i]? = some z → Q i z := by
 intro k
 induction k with
 | zero => intro _; exact ⟨[], rfl, fun i z h => by simp at h⟩
 | succ k ih =>
  intro h
  obtain ⟨l, hl, hq⟩ := ih fun i hi => h i (by omega)
  obtain ⟨z, hz⟩ := h k (by omega)
  refine ⟨l ++ [z], by simp [hl], fun i x hx => ?_⟩
  rcases Nat.lt_or_ge i k with hi | hi
  ·rw [List.getElem?_append_left (by omega)] at hx
   exact hq i x hx
  ·rw [List.getElem?_append_right (by omega)] at hx
   have e : i = k := by
    rcases Nat.lt_or_ge k i with h2 | h2
    ·rw [List.getElem?_eq_none (by simp; omega)] at hx; cases hx
    ·omega
   subst e
   simp [hl] at hx
   subst hx; exact hz

theorem cells_two {w : World} {base : Nat} {a : Addr} {cs : List Value} (h : w.cells? base a 2 = some cs) :
  ∃ c0 c1, cs = [c0, c1] ∧ ∀ j c, [c0, c1][j]? = some c → w.cell? (a.add j) = some c := by
 unfold World.cells? at h
 split at h
 ·have hl := Lib.mapM_length h
  simp at hl
  match cs, hl with
  | [c0, c1], _ =>
   refine ⟨c0, c1, rfl, fun j c hc => ?_⟩
   have hj : j < 2 := by
    have := (List.getElem?_eq_some_iff.1 hc).1
    simpa using this
   obtain ⟨b, hb, hf⟩ := Lib.mapM_at h j j (by simp [hj])
   rw [hc] at hb
   obtain rfl := Option.some.inj hb
   exact hf
 ·cases h

theorem cells_one {w : World} {base : Nat} {a : Addr} {cs : List Value} (h : w.cells? base a 1 = some cs) :
  ∃ c0, cs = [c0] ∧ ∀ j c, [c0][j]? = some c → w.cell? (a.add j) = some c := by
 unfold World.cells? at h
 split at h
 ·have hl := Lib.mapM_length h
  simp at hl
  match cs, hl with
  | [c0], _ =>
   refine ⟨c0, rfl, fun j c hc => ?_⟩
   have hj : j < 1 := by
    have := (List.getElem?_eq_some_iff.1 hc).1
    simpa using this
   obtain ⟨b, hb, hf⟩ := Lib.mapM_at h j j (by rw [show j = 0 by omega]; rfl)
   rw [hc] at hb
   obtain rfl := Option.some.inj hb
   exact hf
 ·cases h

section
variable {H : Type} {enc : TypeId × Value → H} {W : World}
theorem cell_int {m : Nat} {c : Value} {x : DataW H × List MemPlace} (h : DataW.trod enc Tryz.prog W 0 (fun _ => true) true m 3 [c] = some x) :
  ∃ z, c = .int .i64 z ∧ -9223372036854775808 ≤ z ∧ z ≤ 9223372036854775807 := by
 obtain ⟨z, hz, _, wf⟩ := DataW.trod_int Tryz.underlying3 h
 simp at hz
 simp [Lit.wf, IntKind.min, IntKind.max, IntKind.bits, IntKind.signed] at wf
 exact ⟨z, hz, by omega⟩
set_option maxRecDepth 100000 in
theorem arg_ints {r : Reach} {b0 : Nat} {v : Value} {d : DataW H} {p : List MemPlace} (hv : Value.okWide Tryz.prog W r b0 22 v) (h : DataW.Trod enc Tryz.prog W 0 (fun _ => true) true 22 v d p) :
  ∃ xs : List Int, RowN W v xs := by
 obtain ⟨a0, len0, cap0, rfl⟩ := okWide_slice Tryz.underlying22 hv
 obtain ⟨m, hf⟩ := h
 rcases DataW.trod_slice Tryz.underlying22 hf with ⟨h0, _⟩ | ⟨a, len, cap, elems, rest, n, _, hcs, -, hb, hl, hm, hlen, hel, -, -⟩
 ·simp [Value.cells] at h0
  obtain ⟨rfl, rfl, rfl⟩ := h0
  exact ⟨[], none, 0, rfl, by simp, by simp, .inl rfl⟩
 ·simp [Value.cells] at hcs
  obtain ⟨rfl, rfl, rfl⟩ := hcs
  have each : ∀ i, i < len0 → ∃ z : Int, ∀ j c, ([.int .i64 z] : List Value)[j]? = some c → W.cell? ((a.add (i * Tryz.prog.cellsOf 3)).add j) = some c := by
   intro i hi
   have hE := hel i hi
   rw [List.getElem?_eq_getElem (by omega), Option.bind_eq_some_iff] at hE
   obtain ⟨cs', hcs, hy'⟩ := hE
   rw [cells3] at hcs
   obtain ⟨c0, rfl, hc⟩ := cells_one hcs
   obtain ⟨x, rfl, bx, by'⟩ := cell_int hy'
   rw [cells3]
   exact ⟨x, fun j c h => hc j c h⟩
  obtain ⟨vs, hll, hq⟩ := choose_list (fun i (z : Int) => ∀ j c, ([.int .i64 z] : List Value)[j]? = some c → W.cell? ((a.add (i * Tryz.prog.cellsOf 3)).add j) = some c) len0 each
  unfold maxLen at hm
  refine ⟨vs, some a, cap0, by rw [hll], by rw [hll]; exact hl, by omega, ?_⟩
  rcases vs with _ | ⟨z0, vs⟩
  ·exact .inl rfl
  ·right
   obtain ⟨b, off, spot⟩ := a
   have hspot : spot = none := by simpa [Addr.add] using World.cell?_spot (hq 0 z0 rfl 0 _ rfl)
   subst hspot
   refine ⟨b, off, rfl, fun i u hu => ?_⟩
   have k0 := hq i u hu 0 _ rfl
   rw [add_plain, add_plain, cells3, Nat.mul_one, Nat.add_zero] at k0
   exact k0
end
end Go.Proofs.YtoaldbjcpfkcjaaGreat
