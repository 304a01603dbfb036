/- Ways in memory; stops. -/
import Derived.Test.YtoaldbjcpfkcjaaGreatcB12
import Derived.Test.YtoaldbjcpfkcjaaGreatcNb
import Derived.Test.YtoaldbjcpfkcjaaGreatcB11
namespace Go.Proofs.YtoaldbjcpfkcjaaGreat
open Go.RowKit Go.Lib

/-- A way in memory, by value. -/
def wv (t : Wy) (u : Value) : Value := .agg #[.int .i64 t.id, u, .int .i64 t.lv, .string t.cl, .string t.nm, .bool t.st, .int .i64 t.wt, .int .i64 t.ds]
/-- A list of ways in memory. -/
def RowW (w : World) (v : Value) (ts : List Wy) : Prop :=
 ∃ a cap, v = .slice a ts.length cap ∧ ts.length ≤ cap ∧ (cap : Int) ≤ 9223372036854775807 ∧ (ts = [] ∨ ∃ b o, a = some ⟨b, o, none⟩ ∧ ∀ i t, ts[i]? = some t → ∃ u, RowP w u t.ln ∧ (w.cell? ⟨b, o + i * 8, none⟩ = some (.int .i64 t.id) ∧ w.cell? ⟨b, o + i * 8 + 1, none⟩ = some u ∧ w.cell? ⟨b, o + i * 8 + 2, none⟩ = some (.int .i64 t.lv) ∧ w.cell? ⟨b, o + i * 8 + 3, none⟩ = some (.string t.cl) ∧ w.cell? ⟨b, o + i * 8 + 4, none⟩ = some (.string t.nm) ∧ w.cell? ⟨b, o + i * 8 + 5, none⟩ = some (.bool t.st) ∧ w.cell? ⟨b, o + i * 8 + 6, none⟩ = some (.int .i64 t.wt) ∧ w.cell? ⟨b, o + i * 8 + 7, none⟩ = some (.int .i64 t.ds)))
theorem RowW.later {w W : World} {v : Value} {ts : List Wy} (h : RowW w v ts) (g : Grows w W) : RowW W v ts := by
 obtain ⟨a, cap, rfl, h1, h2, h3⟩ := h
 refine ⟨a, cap, rfl, h1, h2, h3.imp id ?_⟩
 rintro ⟨b, o, rfl, hq⟩
 refine ⟨b, o, rfl, fun i t ht => ?_⟩
 obtain ⟨u, hu, c0, c1, c2, c3, c4, c5, c6, c7⟩ := hq i t ht
 have k : ∀ {ad : Addr} {v : Value}, w.cell? ad = some v → W.cell? ad = some v := fun {_ _} q => (g.cell (World.block_lt_of_cell? w _ q)).trans q
 exact ⟨u, hu.later g, k c0, k c1, k c2, k c3, k c4, k c5, k c6, k c7⟩
theorem RowW.spot {W : World} {a : Option Addr} {n c : Nat} {ts : List Wy} (h : RowW W (.slice a n c) ts) (hn : 0 < ts.length) : ∃ b o, a = some ⟨b, o, none⟩ ∧ ∀ i t, ts[i]? = some t → ∃ u, RowP W u t.ln ∧ (W.cell? ⟨b, o + i * 8, none⟩ = some (.int .i64 t.id) ∧ W.cell? ⟨b, o + i * 8 + 1, none⟩ = some u ∧ W.cell? ⟨b, o + i * 8 + 2, none⟩ = some (.int .i64 t.lv) ∧ W.cell? ⟨b, o + i * 8 + 3, none⟩ = some (.string t.cl) ∧ W.cell? ⟨b, o + i * 8 + 4, none⟩ = some (.string t.nm) ∧ W.cell? ⟨b, o + i * 8 + 5, none⟩ = some (.bool t.st) ∧ W.cell? ⟨b, o + i * 8 + 6, none⟩ = some (.int .i64 t.wt) ∧ W.cell? ⟨b, o + i * 8 + 7, none⟩ = some (.int .i64 t.ds)) := by
 obtain ⟨a', c', he, -, -, hq⟩ := h
 injection he with e1 _ _
 subst e1
 exact hq.resolve_left (by intro h; rw [h] at hn; simp at hn)
theorem RowW.len {w : World} {a : Option Addr} {n c : Nat} {ps : List Wy} (h : RowW w (.slice a n c) ps) : n = ps.length ∧ ps.length ≤ c ∧ (c : Int) ≤ 9223372036854775807 := by
 obtain ⟨a', c', he, h1, h2, -⟩ := h
 injection he with _ e1 e2
 subst e1 e2
 exact ⟨rfl, h1, h2⟩
theorem RowW.take {w : World} {a : Option Addr} {n c : Nat} {ts : List Wy} (h : RowW w (.slice a n c) ts) (m : Nat) (hm : m ≤ ts.length) : RowW w (.slice a m c) (ts.take m) := by
 obtain ⟨h1, h2, h3⟩ := h.len
 refine ⟨a, c, by rw [List.length_take, Nat.min_eq_left hm], by rw [List.length_take]; omega, h3, ?_⟩
 by_cases hn : 0 < ts.length
 ·obtain ⟨b, o, rfl, hq⟩ := h.spot hn
  refine .inr ⟨b, o, rfl, fun i t ht => hq i t ?_⟩
  rw [List.getElem?_take] at ht
  split at ht
  ·exact ht
  ·cases ht
 ·have : ts = [] := List.eq_nil_of_length_eq_zero (by omega)
  subst this; exact .inl (by simp)
theorem Has.wy {w0 w : World} {bs : List (Nat × List Value)} {A : Nat} {c0 c1 c2 c3 c4 c5 c6 c7 : Value} (h : Has w0 ((A, [c0, c1, c2, c3, c4, c5, c6, c7]) :: bs) w) :
  (w.cell? ⟨A, 0, none⟩ = some c0 ∧ w.cell? ⟨A, 1, none⟩ = some c1 ∧ w.cell? ⟨A, 2, none⟩ = some c2 ∧ w.cell? ⟨A, 3, none⟩ = some c3 ∧ w.cell? ⟨A, 4, none⟩ = some c4 ∧ w.cell? ⟨A, 5, none⟩ = some c5 ∧ w.cell? ⟨A, 6, none⟩ = some c6 ∧ w.cell? ⟨A, 7, none⟩ = some c7) :=
 ⟨h.fact (.head _) (i := 0) rfl, h.fact (.head _) (i := 1) rfl, h.fact (.head _) (i := 2) rfl, h.fact (.head _) (i := 3) rfl, h.fact (.head _) (i := 4) rfl, h.fact (.head _) (i := 5) rfl, h.fact (.head _) (i := 6) rfl, h.fact (.head _) (i := 7) rfl⟩
def kv (k : Key) : Value := .agg #[.int .i64 k.1, .int .i64 k.2.1, .int .i64 k.2.2]
theorem key_eq (a b c d e f : Int) : (decide ((a, b, c) = (d, e, f)) : Bool) = (decide (a = d) && decide (b = e) && decide (c = f)) := by
 rw [Bool.eq_iff_iff]; simp [Prod.ext_iff, and_assoc]

set_option maxHeartbeats 400000 in
theorem stopping_any (t : Wy) (u : Value) (w : World) (hu : RowP w u t.ln) :
  Calls Tryz.prog 36 #[wv t u] w fun e w' => e = .returned (.bool (goes t)) ∧ Below w.heap.size w w' := by
 obtain ⟨id, ln, lv, cl, nm, st, wt, ds⟩ := t
 obtain ⟨a, c, rfl, -⟩ := hu
 unfold goes wv
 simp only
 generalize ln.length = n
 by_cases hn : 0 < n
 ·have hb : decide (0 < n) = true := decide_eq_true hn
  have C0 := has1 (w := w) [.int .i64 id, .slice a n c, .int .i64 lv, .string cl, .string nm, .bool st, .int .i64 wt, .int .i64 ds] 44
  rw [hb]
  go_enter Tryz.func36, Tryz.ntmps36
  go_wp2_with fail
  change Has w _ (w.alloc (.cells #[.int .i64 id, .slice a n c, .int .i64 lv, .string cl, .string nm, .bool st, .int .i64 wt, .int .i64 ds] 44)) at C0
  generalize w.alloc (.cells #[.int .i64 id, .slice a n c, .int .i64 lv, .string cl, .string nm, .bool st, .int .i64 wt, .int .i64 ds] 44) = w0 at *
  obtain ⟨k0, k1, k2, k3, k4, k5, k6, k7⟩ := C0.wy
  go_wp2_with fail
  go_ret
  exact ⟨rfl, C0.low⟩
 ·obtain rfl : n = 0 := by omega
  have C0 := has1 (w := w) [.int .i64 id, .slice a 0 c, .int .i64 lv, .string cl, .string nm, .bool st, .int .i64 wt, .int .i64 ds] 44
  go_enter Tryz.func36, Tryz.ntmps36
  go_wp2_with fail
  change Has w _ (w.alloc (.cells #[.int .i64 id, .slice a 0 c, .int .i64 lv, .string cl, .string nm, .bool st, .int .i64 wt, .int .i64 ds] 44)) at C0
  generalize w.alloc (.cells #[.int .i64 id, .slice a 0 c, .int .i64 lv, .string cl, .string nm, .bool st, .int .i64 wt, .int .i64 ds] 44) = w0 at *
  obtain ⟨k0, k1, k2, k3, k4, k5, k6, k7⟩ := C0.wy
  go_wp2_with fail
  go_ret
  exact ⟨rfl, C0.low⟩
theorem stopping_is (t : Wy) (u : Value) (r : Bool) (h : goes t = r) (w : World) (hu : RowP w u t.ln) :
  Calls Tryz.prog 36 #[wv t u] w fun e w' => e = .returned (.bool r) ∧ Below w.heap.size w w' := h ▸ stopping_any t u w hu

end Go.Proofs.YtoaldbjcpfkcjaaGreat
