/- Arguments: ways with their lines; what is changed. -/
import Derived.Test.YtoaldbjcpfkcjaaGreatcFrameN
import Derived.Test.YtoaldbjcpfkcjaaGreatcNc
namespace Go.Proofs.YtoaldbjcpfkcjaaGreat
open Go.ChangeShapes Go.WideShapes Go.ChangeAt Go.RowKit Go.Joins
set_option maxRecDepth 100000
section
variable {H : Type} {enc : TypeId × Value → H} {W : World}
theorem cell_u8 {m : Nat} {c : Value} {x : DataW H × List MemPlace} (h : DataW.trod enc Tryz.prog W 0 (fun _ => true) true m 5 [c] = some x) : ∃ z : Nat, c = .int .u8 (z : Int) ∧ z < 256 := by
 obtain ⟨z, hz, _, wf⟩ := DataW.trod_int Tryz.underlying5 h
 simp at hz
 simp [Lit.wf, IntKind.min, IntKind.max, IntKind.bits, IntKind.signed] at wf
 refine ⟨z.toNat, ?_, by omega⟩
 rw [hz, Int.toNat_of_nonneg (by omega)]
end
end Go.Proofs.YtoaldbjcpfkcjaaGreat

namespace Go.Proofs.YtoaldbjcpfkcjaaGreat
open Go.ChangeShapes Go.WideShapes Go.ChangeAt Go.RowKit Go.Joins
set_option maxRecDepth 100000
theorem cells37 : Tryz.prog.cellsOf 37 = 2 := by kernel_rfl
theorem cells42 : Tryz.prog.cellsOf 42 = 1 := by kernel_rfl
theorem cells44 : Tryz.prog.cellsOf 44 = 8 := by kernel_rfl
theorem cells9 : Tryz.prog.cellsOf 9 = 1 := by kernel_rfl
theorem cells5 : Tryz.prog.cellsOf 5 = 1 := by kernel_rfl
theorem cells23 : Tryz.prog.cellsOf 23 = 1 := by kernel_rfl
theorem cells25 : Tryz.prog.cellsOf 25 = 4 := by kernel_rfl
theorem array_4 {α : Type} {cs : Array α} (h : cs.size = 4) : ∃ c0 c1 c2 c3, cs = #[c0, c1, c2, c3] := by
 obtain ⟨l⟩ := cs
 match l, h with
 | [c0, c1, c2, c3], _ => exact ⟨c0, c1, c2, c3, rfl⟩
theorem cells_eight {w : World} {base : Nat} {a : Addr} {cs : List Value} (h : w.cells? base a 8 = some cs) :
  ∃ c0 c1 c2 c3 c4 c5 c6 c7, cs = [c0, c1, c2, c3, c4, c5, c6, c7] ∧ ∀ j c, [c0, c1, c2, c3, c4, c5, c6, c7][j]? = some c → w.cell? (a.add j) = some c := by
 unfold World.cells? at h
 split at h
 ·have hl := Lib.mapM_length h
  simp at hl
  match cs, hl with
  | [c0, c1, c2, c3, c4, c5, c6, c7], _ =>
   refine ⟨c0, c1, c2, c3, c4, c5, c6, c7, rfl, fun j c hc => ?_⟩
   have hj : j < 8 := by
    have := (List.getElem?_eq_some_iff.1 hc).1
    simpa using this
   obtain ⟨b, hb, hf⟩ := Lib.mapM_at h j j (by simp [hj])
   rw [hc] at hb
   obtain rfl := Option.some.inj hb
   exact hf
 ·cases h
section
variable {H : Type} {enc : TypeId × Value → H} {W : World}
theorem cell_boo {m : Nat} {c : Value} {x : DataW H × List MemPlace} (h : DataW.trod enc Tryz.prog W 0 (fun _ => true) true m 4 [c] = some x) : ∃ z : Bool, c = .bool z := by
 cases m with
 | zero => simp [DataW.trod] at h
 | succ m =>
  unfold DataW.trod at h
  rw [Tryz.underlying4] at h
  simp at h
  split at h <;> simp_all
theorem cell_str {m : Nat} {c : Value} {x : DataW H × List MemPlace} (h : DataW.trod enc Tryz.prog W 0 (fun _ => true) true m 9 [c] = some x) : ∃ s : ByteArray, c = .string s := by
 obtain ⟨s, hs, _, -⟩ := DataW.trod_string Tryz.underlying9 h
 simp at hs
 exact ⟨s, hs⟩
theorem cells_pt {m : Nat} {c0 c1 : Value} {x : DataW H × List MemPlace} (h : DataW.trod enc Tryz.prog W 0 (fun _ => true) true m 37 [c0, c1] = some x) :
  ∃ a b : Int, c0 = .int .i64 a ∧ c1 = .int .i64 b ∧ I64 a ∧ I64 b := by
 obtain ⟨xs, n, _, _, _, hl, hi⟩ := DataW.trod_struct Tryz.underlying37 h
 obtain ⟨x0, e0⟩ := some_at (i := 0) hl (by decide)
 obtain ⟨x1, e1⟩ := some_at (i := 1) hl (by decide)
 have h0 : DataW.trod enc Tryz.prog W 0 (fun _ => true) true n 3 (([c0, c1].drop 0).take (Tryz.prog.cellsOf 3)) = xs[0]? := hi 0 _ rfl
 have h1 : DataW.trod enc Tryz.prog W 0 (fun _ => true) true n 3 (([c0, c1].drop 1).take (Tryz.prog.cellsOf 3)) = xs[1]? := hi 1 _ rfl
 rw [cells3, e0] at h0
 rw [cells3, e1] at h1
 obtain ⟨a, rfl, ba⟩ := cell_int h0
 obtain ⟨b, rfl, bb⟩ := cell_int h1
 exact ⟨a, b, rfl, rfl, ba, bb⟩
theorem cell_pts {m : Nat} {c : Value} {x : DataW H × List MemPlace} (h : DataW.trod enc Tryz.prog W 0 (fun _ => true) true m 42 [c] = some x) :
  ∃ ps : List (Int × Int), RowP W c ps ∧ ∀ p ∈ ps, I64 p.1 ∧ I64 p.2 := by
 rcases DataW.trod_slice Tryz.underlying42 h with ⟨h0, _⟩ | ⟨a, len, cap, elems, rest, n, _, hcs, -, hb, hl, hm, hlen, hel, -, -⟩
 ·simp at h0
  subst h0
  exact ⟨[], ⟨none, 0, rfl, by simp, by simp, .inl rfl⟩, fun _ h => by cases h⟩
 ·simp at hcs
  subst hcs
  have each : ∀ i, i < len → ∃ z : Int × Int, (I64 z.1 ∧ I64 z.2) ∧ ∀ j c, ([.int .i64 z.1, .int .i64 z.2] : List Value)[j]? = some c → W.cell? ((a.add (i * 2)).add j) = some c := by
   intro i hi
   have hE := hel i hi
   rw [List.getElem?_eq_getElem (by omega), cells37, Option.bind_eq_some_iff] at hE
   obtain ⟨cs', hcs, hy'⟩ := hE
   obtain ⟨c0, c1, rfl, hc⟩ := cells_two hcs
   obtain ⟨x, y, rfl, rfl, bx, by'⟩ := cells_pt hy'
   exact ⟨(x, y), ⟨bx, by'⟩, fun j c h => hc j c h⟩
  obtain ⟨vs, hll, hq⟩ := choose_list (fun i (z : Int × Int) => (I64 z.1 ∧ I64 z.2) ∧ ∀ j c, ([.int .i64 z.1, .int .i64 z.2] : List Value)[j]? = some c → W.cell? ((a.add (i * 2)).add j) = some c) len each
  unfold maxLen at hm
  refine ⟨vs, ⟨some a, cap, by rw [hll], by rw [hll]; exact hl, by omega, ?_⟩, fun z hz => ?_⟩
  ·rcases vs with _ | ⟨z0, vs⟩
   ·exact .inl rfl
   ·right
    obtain ⟨b, off, spot⟩ := a
    have hspot : spot = none := by simpa [Addr.add] using World.cell?_spot ((hq 0 z0 rfl).2 0 _ rfl)
    subst hspot
    refine ⟨b, off, rfl, fun i u hu => ?_⟩
    have k0 := (hq i u hu).2 0 _ rfl
    have k1 := (hq i u hu).2 1 _ rfl
    rw [add_plain, add_plain, Nat.add_zero] at k0
    rw [add_plain, add_plain] at k1
    exact ⟨k0, k1⟩
  ·obtain ⟨i, hi⟩ := List.getElem?_of_mem hz
   exact (hq i z hi).1
/-- Numbers of a way are ints. -/
structure InW (t : Wy) : Prop where
 lv : I64 t.lv
 ln : ∀ p ∈ t.ln, I64 p.1 ∧ I64 p.2
theorem i64_zero : I64 0 := by unfold I64; omega
theorem InW.wk {t : Wy} (h : InW t) : WK t := by
 unfold WK K64 fstK lstK
 have z := i64_zero
 refine ⟨?_, ?_⟩
 ·cases hl : t.ln with
  | nil => exact ⟨z, z, z⟩
  | cons p l => have := h.ln p (by rw [hl]; exact .head _); exact ⟨this.1, this.2, h.lv⟩
 ·cases hl : t.ln.getLast? with
  | none => exact ⟨z, z, z⟩
  | some p => have := h.ln p (List.mem_of_getLast? hl); exact ⟨this.1, this.2, h.lv⟩
/-- The eight cells of a way. -/
theorem cells_way {m : Nat} {c0 c1 c2 c3 c4 c5 c6 c7 : Value} {x : DataW H × List MemPlace} (h : DataW.trod enc Tryz.prog W 0 (fun _ => true) true m 44 [c0, c1, c2, c3, c4, c5, c6, c7] = some x) :
  ∃ t : Wy, c0 = .int .i64 t.id ∧ RowP W c1 t.ln ∧ c2 = .int .i64 t.lv ∧ c3 = .string t.cl ∧ c4 = .string t.nm ∧ c5 = .bool t.st ∧ c6 = .int .i64 t.wt ∧ c7 = .int .i64 t.ds ∧ InW t := by
 obtain ⟨xs, k, _, _, _, hl, hi⟩ := DataW.trod_struct Tryz.underlying44 h
 have get : ∀ i, i < 8 → ∃ x, xs[i]? = some x := fun i hi => ⟨_, List.getElem?_eq_getElem (by rw [hl]; exact hi)⟩
 obtain ⟨x0, e0⟩ := get 0 (by omega)
 obtain ⟨x1, e1⟩ := get 1 (by omega)
 obtain ⟨x2, e2⟩ := get 2 (by omega)
 obtain ⟨x3, e3⟩ := get 3 (by omega)
 obtain ⟨x4, e4⟩ := get 4 (by omega)
 obtain ⟨x5, e5⟩ := get 5 (by omega)
 obtain ⟨x6, e6⟩ := get 6 (by omega)
 obtain ⟨x7, e7⟩ := get 7 (by omega)
 have h0 : DataW.trod enc Tryz.prog W 0 (fun _ => true) true k 3 (([c0, c1, c2, c3, c4, c5, c6, c7].drop 0).take (Tryz.prog.cellsOf 3)) = xs[0]? := hi 0 _ rfl
 have h1 : DataW.trod enc Tryz.prog W 0 (fun _ => true) true k 42 (([c0, c1, c2, c3, c4, c5, c6, c7].drop 1).take (Tryz.prog.cellsOf 42)) = xs[1]? := hi 1 _ rfl
 have h2 : DataW.trod enc Tryz.prog W 0 (fun _ => true) true k 3 (([c0, c1, c2, c3, c4, c5, c6, c7].drop 2).take (Tryz.prog.cellsOf 3)) = xs[2]? := hi 2 _ rfl
 have h3 : DataW.trod enc Tryz.prog W 0 (fun _ => true) true k 9 (([c0, c1, c2, c3, c4, c5, c6, c7].drop 3).take (Tryz.prog.cellsOf 9)) = xs[3]? := hi 3 _ rfl
 have h4 : DataW.trod enc Tryz.prog W 0 (fun _ => true) true k 9 (([c0, c1, c2, c3, c4, c5, c6, c7].drop 4).take (Tryz.prog.cellsOf 9)) = xs[4]? := hi 4 _ rfl
 have h5 : DataW.trod enc Tryz.prog W 0 (fun _ => true) true k 4 (([c0, c1, c2, c3, c4, c5, c6, c7].drop 5).take (Tryz.prog.cellsOf 4)) = xs[5]? := hi 5 _ rfl
 have h6 : DataW.trod enc Tryz.prog W 0 (fun _ => true) true k 3 (([c0, c1, c2, c3, c4, c5, c6, c7].drop 6).take (Tryz.prog.cellsOf 3)) = xs[6]? := hi 6 _ rfl
 have h7 : DataW.trod enc Tryz.prog W 0 (fun _ => true) true k 3 (([c0, c1, c2, c3, c4, c5, c6, c7].drop 7).take (Tryz.prog.cellsOf 3)) = xs[7]? := hi 7 _ rfl
 rw [cells3, e0] at h0
 rw [cells42, e1] at h1
 rw [cells3, e2] at h2
 rw [cells9, e3] at h3
 rw [cells9, e4] at h4
 rw [cells4, e5] at h5
 rw [cells3, e6] at h6
 rw [cells3, e7] at h7
 obtain ⟨id, rfl, -⟩ := cell_int h0
 obtain ⟨ln, hln, bl⟩ := cell_pts h1
 obtain ⟨lv, rfl, b2⟩ := cell_int h2
 obtain ⟨cl, rfl⟩ := cell_str h3
 obtain ⟨nm, rfl⟩ := cell_str h4
 obtain ⟨st, rfl⟩ := cell_boo h5
 obtain ⟨wt, rfl, -⟩ := cell_int h6
 obtain ⟨ds, rfl, -⟩ := cell_int h7
 exact ⟨⟨id, ln, lv, cl, nm, st, wt, ds⟩, rfl, hln, rfl, rfl, rfl, rfl, rfl, rfl, ⟨b2, bl⟩⟩
theorem cell_ways {m : Nat} {c : Value} {x : DataW H × List MemPlace} (h : DataW.trod enc Tryz.prog W 0 (fun _ => true) true m 23 [c] = some x) :
  ∃ ws : List Wy, RowW W c ws ∧ ∀ t ∈ ws, InW t := by
 rcases DataW.trod_slice Tryz.underlying23 h with ⟨h0, _⟩ | ⟨a, len, cap, elems, rest, n, _, hcs, -, hb, hl, hm, hlen, hel, -, -⟩
 ·simp at h0
  subst h0
  exact ⟨[], ⟨none, 0, rfl, by simp, by simp, .inl rfl⟩, fun _ h => by cases h⟩
 ·simp at hcs
  subst hcs
  have each : ∀ i, i < len → ∃ z : Wy, InW z ∧ ∃ u, RowP W u z.ln ∧ ∀ j c, ([.int .i64 z.id, u, .int .i64 z.lv, .string z.cl, .string z.nm, .bool z.st, .int .i64 z.wt, .int .i64 z.ds] : List Value)[j]? = some c → W.cell? ((a.add (i * 8)).add j) = some c := by
   intro i hi
   have hE := hel i hi
   rw [List.getElem?_eq_getElem (by omega), cells44, Option.bind_eq_some_iff] at hE
   obtain ⟨cs', hcs, hy'⟩ := hE
   obtain ⟨c0, c1, c2, c3, c4, c5, c6, c7, rfl, hc⟩ := cells_eight hcs
   obtain ⟨t, rfl, hr, rfl, rfl, rfl, rfl, rfl, rfl, hi⟩ := cells_way hy'
   exact ⟨t, hi, c1, hr, hc⟩
  obtain ⟨vs, hll, hq⟩ := choose_list (fun i (z : Wy) => InW z ∧ ∃ u, RowP W u z.ln ∧ ∀ j c, ([.int .i64 z.id, u, .int .i64 z.lv, .string z.cl, .string z.nm, .bool z.st, .int .i64 z.wt, .int .i64 z.ds] : List Value)[j]? = some c → W.cell? ((a.add (i * 8)).add j) = some c) len each
  unfold maxLen at hm
  refine ⟨vs, ⟨some a, cap, by rw [hll], by rw [hll]; exact hl, by omega, ?_⟩, fun z hz => ?_⟩
  ·rcases vs with _ | ⟨z0, vs⟩
   ·exact .inl rfl
   ·right
    obtain ⟨b, off, spot⟩ := a
    have hspot : spot = none := by
     obtain ⟨-, u, -, hc⟩ := hq 0 z0 rfl
     simpa [Addr.add] using World.cell?_spot (hc 0 _ rfl)
    subst hspot
    refine ⟨b, off, rfl, fun i t ht => ?_⟩
    obtain ⟨-, u, hr, hc⟩ := hq i t ht
    have k0 := hc 0 _ rfl
    have k1 := hc 1 _ rfl
    have k2 := hc 2 _ rfl
    have k3 := hc 3 _ rfl
    have k4 := hc 4 _ rfl
    have k5 := hc 5 _ rfl
    have k6 := hc 6 _ rfl
    have k7 := hc 7 _ rfl
    simp only [add_plain, Nat.add_zero] at k0 k1 k2 k3 k4 k5 k6 k7
    exact ⟨u, hr, k0, k1, k2, k3, k4, k5, k6, k7⟩
  ·obtain ⟨i, hi⟩ := List.getElem?_of_mem hz
   exact (hq i z hi).1
/-- What is changed, by value. -/
theorem arg_changed {r : Reach} {b0 : Nat} {v : Value} {d : DataW H} {p : List MemPlace} (hv : Value.okWide Tryz.prog W r b0 25 v) (h : DataW.Trod enc Tryz.prog W 0 (fun _ => true) true 25 v d p) :
  ∃ (u : Value) (ws : List Wy) (a b : Nat) (n : Int), v = .agg #[u, .int .u8 a, .int .u8 b, .int .i64 n] ∧ RowW W u ws ∧ (∀ t ∈ ws, InW t) ∧ a < 256 ∧ b < 256 ∧ I64 n := by
 obtain ⟨cs, rfl, hsz⟩ := okWide_struct Tryz.underlying25 hv
 obtain ⟨c0, c1, c2, c3, rfl⟩ := array_4 (hsz.trans cells25)
 obtain ⟨fuel, hf⟩ := h
 obtain ⟨xs, k, _, _, _, hl, hi⟩ := DataW.trod_struct Tryz.underlying25 hf
 have get : ∀ i, i < 4 → ∃ x, xs[i]? = some x := fun i hi => ⟨_, List.getElem?_eq_getElem (by rw [hl]; exact hi)⟩
 obtain ⟨x0, e0⟩ := get 0 (by omega)
 obtain ⟨x1, e1⟩ := get 1 (by omega)
 obtain ⟨x2, e2⟩ := get 2 (by omega)
 obtain ⟨x3, e3⟩ := get 3 (by omega)
 have h0 : DataW.trod enc Tryz.prog W 0 (fun _ => true) true k 23 (([c0, c1, c2, c3].drop 0).take (Tryz.prog.cellsOf 23)) = xs[0]? := hi 0 _ rfl
 have h1 : DataW.trod enc Tryz.prog W 0 (fun _ => true) true k 5 (([c0, c1, c2, c3].drop 1).take (Tryz.prog.cellsOf 5)) = xs[1]? := hi 1 _ rfl
 have h2 : DataW.trod enc Tryz.prog W 0 (fun _ => true) true k 5 (([c0, c1, c2, c3].drop 2).take (Tryz.prog.cellsOf 5)) = xs[2]? := hi 2 _ rfl
 have h3 : DataW.trod enc Tryz.prog W 0 (fun _ => true) true k 3 (([c0, c1, c2, c3].drop 3).take (Tryz.prog.cellsOf 3)) = xs[3]? := hi 3 _ rfl
 rw [cells23, e0] at h0
 rw [cells5, e1] at h1
 rw [cells5, e2] at h2
 rw [cells3, e3] at h3
 obtain ⟨ws, hr, hw⟩ := cell_ways h0
 obtain ⟨a, rfl, ha⟩ := cell_u8 h1
 obtain ⟨b, rfl, hb⟩ := cell_u8 h2
 obtain ⟨n, rfl, hn⟩ := cell_int h3
 exact ⟨c0, ws, a, b, n, rfl, hr, hw, ha, hb, hn⟩
end
end Go.Proofs.YtoaldbjcpfkcjaaGreat
