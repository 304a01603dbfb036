/- WireNothing: the walk. -/
import Derived.Test.YtjiljkiedidmeaaDoorReads
namespace Go.Proofs.YtjiljkiedidmeaaDoor
open Go.RowKit Go.Lib

set_option maxRecDepth 100000 in
set_option maxHeartbeats 4000000 in
theorem nothing_walk (n : Nat) (w : World) (E : Env w) :
    Calls Tryd.prog 9 #[.int .u8 (n : Int)] w fun e w' => e = .returned (.bool true) ∧ Grows w w' := by
  have q1 : (n : Int).tmod 4 = ((n % 4 : Nat) : Int) := rfl
  have hk4 : n % 4 < 4 := Nat.mod_lt _ (by omega)
  generalize n % 4 = z at *
  go_enter Tryd.func9, Tryd.ntmps9
  go_wp2_with fail
  refine (sane _ E).mono ?_
  rintro e w1 ⟨rfl, g1⟩
  go_wp2_with fail
  refine (new_any [] _).mono ?_
  rintro e w2 ⟨rfl, h2, g2⟩
  have hA : RdAt (w1.alloc (.cells #[.string ⟨#[]⟩, .bool false] 53)) w1.heap.size [] false := heap_alloc_new _ _
  replace hA := hA.later g2
  have g0 : Grows w w2 := g1.then (Grows.then ((Below.refl _ w1).alloc (Nat.le_refl _) _) g2)
  have hsA : w.heap.size ≤ w1.heap.size := g1.size
  have hc : (w2.alloc (.cells #[.pointer none, .pointer (some ⟨w1.heap.size, 0, none⟩), .pointer (some ⟨w1.heap.size + 1, 0, none⟩)] 32)).heap[w2.heap.size]? = some (.cells #[.pointer none, .pointer (some ⟨w1.heap.size, 0, none⟩), .pointer (some ⟨w1.heap.size + 1, 0, none⟩)] 32 (0, 0)) := heap_alloc_new _ _
  have gx : Grows w2 (w2.alloc (.cells #[.pointer none, .pointer (some ⟨w1.heap.size, 0, none⟩), .pointer (some ⟨w1.heap.size + 1, 0, none⟩)] 32)) := (Below.refl _ _).alloc (Nat.le_refl _) _
  have hsz : (w1.alloc (.cells #[.string ⟨#[]⟩, .bool false] 53)).heap.size = w1.heap.size + 1 := Array.size_push _
  rw [hsz] at h2
  have hB := h2.later gx
  replace hA := hA.later gx
  have h12 : w1.heap.size + 1 < w2.heap.size := h2.lt
  replace g0 := g0.then gx
  have h4 : 4 ≤ w.heap.size := E.size
  clear h2 g1 g2 hsz gx
  go_wp2_with fail
  generalize w2.alloc (.cells #[.pointer none, .pointer (some ⟨w1.heap.size, 0, none⟩), .pointer (some ⟨w1.heap.size + 1, 0, none⟩)] 32) = wc at *
  generalize w1.heap.size = A at *
  generalize w2.heap.size = S at *
  go_loopw [12] (fun x wr => ∃ k : Nat, k ≤ 3 ∧ x = .int .i64 k ∧ (k ≤ 1 → RdAt wr A [] false) ∧ (k ≤ 2 → RdAt wr (A + 1) [] false) ∧ wr.heap[S]? = wc.heap[S]? ∧ Grows w wr) (fun x _ => 3 - (RowKit.intOf x).toNat)
  case atStart => exact ⟨0, by omega, rfl, fun _ => hA, fun _ => hB, rfl, g0⟩
  case round =>
    clear hA hB g0
    obtain ⟨k, hk, rfl, hA, hB, hS, gg⟩ := hrel
    rw [hc] at hS
    have E1 := E.grows gg
    have hsz := gg.size
    have h3 : k = 0 ∨ k = 1 ∨ k = 2 ∨ k = 3 := by omega
    rcases h3 with rfl | rfl | rfl | rfl
    · have c1 : wr.cell? ⟨S, 0, none⟩ = some (.pointer none) := by rw [cell_of_heap hS]; rfl
      go_wp2_with fail
      refine (wleft_nil _).mono ?_
      rintro e w7 ⟨rfl, rfl⟩
      go_wp2_with fail
      refine (bad_nil _).mono ?_
      rintro e w7 ⟨rfl, rfl⟩
      go_wp2_with fail
      refine (dec_nil z _ E1 hk4).mono ?_
      rintro e w4 ⟨rfl, g1⟩
      go_wp2_with fail
      refine (bad_nil _).mono ?_
      rintro e w7 ⟨rfl, rfl⟩
      go_wp2_with fail
      refine (wleft_nil _).mono ?_
      rintro e w7 ⟨rfl, rfl⟩
      go_wp2_with fail
      have hA' := (hA (by omega)).later g1
      have hB' := (hB (by omega)).later g1
      have hS' : w4.heap[S]? = wr.heap[S]? := g1.block S ((Array.getElem?_eq_some_iff.1 hS).1)
      have gg' := Grows.then gg g1
      go_roundw
      case rel => exact ⟨1, by omega, by go_num, fun _ => hA', fun _ => hB', by rw [hS', hS, hc], gg'⟩
      case measure => simp [RowKit.intOf]
    · have hA1 := hA (by omega)
      have hB1 := hB (by omega)
      have c1 : wr.cell? ⟨S, 1, none⟩ = some (.pointer (some ⟨A, 0, none⟩)) := by rw [cell_of_heap hS]; rfl
      clear hA hB
      go_wp2_with fail
      refine (wleft_any _ _ _ _ hA1).mono ?_
      rintro e w7 ⟨rfl, rfl⟩
      go_wp2_with fail
      refine (bad_any _ _ _ _ hA1).mono ?_
      rintro e w7 ⟨rfl, rfl⟩
      go_wp2_with fail
      refine (dec_any z _ _ _ _ E1 (by omega) (by decide) hA1 (fun _ => rfl) hk4 (dead_nil.at z)).mono ?_
      rintro e w4 ⟨rfl, hA2, g1⟩
      have hB2 := hB1.other g1 (by omega)
      have gg' := gg.trans (below_of_grown g1 hsA hsz)
      have hS' : w4.heap[S]? = wr.heap[S]? := g1.block S ((Array.getElem?_eq_some_iff.1 hS).1) (by simp; omega)
      clear hA1 hB1 g1
      go_wp2_with fail
      refine (bad_any _ _ _ _ hA2).mono ?_
      rintro e w7 ⟨rfl, rfl⟩
      go_wp2_with fail
      refine (wleft_any _ _ _ _ hA2).mono ?_
      rintro e w7 ⟨rfl, rfl⟩
      go_wp2_with fail
      go_roundw
      case rel => exact ⟨2, by omega, by go_num, fun e => absurd e (by omega), fun _ => hB2, by rw [hS', hS, hc], gg'⟩
      case measure => simp [RowKit.intOf]
    · have hB1 := hB (by omega)
      have c1 : wr.cell? ⟨S, 2, none⟩ = some (.pointer (some ⟨A + 1, 0, none⟩)) := by rw [cell_of_heap hS]; rfl
      clear hA hB
      go_wp2_with fail
      refine (wleft_any _ _ _ _ hB1).mono ?_
      rintro e w7 ⟨rfl, rfl⟩
      go_wp2_with fail
      refine (bad_any _ _ _ _ hB1).mono ?_
      rintro e w7 ⟨rfl, rfl⟩
      go_wp2_with fail
      refine (dec_any z _ _ _ _ E1 (by omega) (by decide) hB1 (fun _ => rfl) hk4 (dead_nil.at z)).mono ?_
      rintro e w4 ⟨rfl, hB2, g1⟩
      have gg' := gg.trans (below_of_grown g1 (by omega) hsz)
      have hS' : w4.heap[S]? = wr.heap[S]? := g1.block S ((Array.getElem?_eq_some_iff.1 hS).1) (by simp; omega)
      clear hB1 g1
      go_wp2_with fail
      refine (bad_any _ _ _ _ hB2).mono ?_
      rintro e w7 ⟨rfl, rfl⟩
      go_wp2_with fail
      refine (wleft_any _ _ _ _ hB2).mono ?_
      rintro e w7 ⟨rfl, rfl⟩
      go_wp2_with fail
      go_roundw
      case rel => exact ⟨3, by omega, by go_num, fun e => absurd e (by omega), fun e => absurd e (by omega), by rw [hS', hS, hc], gg'⟩
      case measure => simp [RowKit.intOf]
    · go_wp2_with fail
      go_ret
      exact ⟨rfl, gg⟩

end Go.Proofs.YtjiljkiedidmeaaDoor
