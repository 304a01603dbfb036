/- The examples at the head of every law. -/
import Derived.Test.YtoaldbjcpfkcjaaGreatcWb
namespace Go.Proofs.YtoaldbjcpfkcjaaGreat
open Go.RowKit Go.Lib

/-- The ways of the examples. -/
def exA : Wy := exw 1 0 0 10 0
def exB : Wy := exw 2 10 0 10 10
def exC : Wy := exw 3 5 (-5) 5 5
def exD : Wy := { exw 4 5 (-5) 5 5 with lv := 1 }
theorem val1 : checkN [exA, exB] = 0 := by decide +kernel
theorem val2 : checkN [exA, exC] = 16 := by decide +kernel
theorem val3 : checkN [exA, exD] = 0 := by decide +kernel
theorem val4 : joinP exA exB = true := by decide +kernel
theorem val5 : joinP exA exD = false := by decide +kernel
theorem val6 : crossW exA exC = false := by decide +kernel
theorem val7 : crossW exA exD = true := by decide +kernel
theorem val9 : grpW [exB, exD, exA] = [[1, 2], [4]] := by
 unfold grpW grp
 rw [show cls [exB, exD, exA].length (CC [exB, exD, exA]) = [[0, 2], [1]] by decide +kernel]
 rw [show ([[0, 2], [1]] : List (List Nat)).map (fun b => sortI (b.map (idsOf [exB, exD, exA]))) = [sortI [2, 1], sortI [4]] from rfl]
 rw [← sortI_eq (l := [2, 1]) (m := [1, 2]) (List.Perm.swap _ _ _) (by decide), ← sortI_eq (l := [4]) (m := [4]) (List.Perm.refl _) (by decide)]
 exact (sortG_eq (List.Perm.refl _) (by decide +kernel)).symm
theorem RowW.block {W : World} {b c : Nat} {us : List Value} {es : List Wy} (h : Cells W b (flatW us es)) (hl : us.length = es.length) (hu : ∀ p ∈ us.zip es, RowP W p.1 p.2.ln) (h1 : es.length ≤ c) (h2 : (c : Int) ≤ 9223372036854775807) : RowW W (.slice (some ⟨b, 0, none⟩) es.length c) es := by
 refine ⟨_, c, rfl, h1, h2, .inr ⟨b, 0, rfl, fun i e he => ?_⟩⟩
 obtain ⟨u, hue⟩ : ∃ u, us[i]? = some u := ⟨_, List.getElem?_eq_getElem (by rw [hl]; exact (List.getElem?_eq_some_iff.1 he).1)⟩
 obtain ⟨a0, a1, a2, a3, a4, a5, a6, a7⟩ := flatW_at hue he
 have hz : (us.zip es)[i]? = some (u, e) := by rw [List.getElem?_zip_eq_some]; exact ⟨hue, he⟩
 have k := fun {j : Nat} {v : Value} (q : (flatW us es)[j]? = some v) => (h.get j q).1
 simp only [Nat.zero_add]
 exact ⟨u, hu _ (List.mem_of_getElem? hz), k a0, k a1, k a2, k a3, k a4, k a5, k a6, k a7⟩
theorem rowG_two {W : World} {b : Nat} {u v : Value} {xs ys : List Int} (h : Cells W b [u, v]) (hu : RowN W u xs) (hv : RowN W v ys) : RowG W (.slice (some ⟨b, 0, none⟩) 2 2) [xs, ys] := by
 refine ⟨_, 2, rfl, by simp, by decide, .inr ⟨b, 0, rfl, fun i zs hz => ?_⟩⟩
 match i, hz with
 | 0, hz => cases hz; exact ⟨u, hu, (h.get 0 rfl).1⟩
 | 1, hz => cases hz; exact ⟨v, hv, (h.get 1 rfl).1⟩
 | i + 2, hz => simp at hz
theorem exK : ∀ t ∈ [exB, exD, exA], WK t := by
 intro t ht
 simp only [List.mem_cons, List.not_mem_nil, or_false] at ht
 rcases ht with rfl | rfl | rfl <;> (unfold WK K64 I64; decide +kernel)
theorem rowN_two {W : World} {b : Nat} {x y : Int} (h : Cells W b [.int .i64 x, .int .i64 y]) : RowN W (.slice (some ⟨b, 0, none⟩) 2 2) [x, y] := by
 refine ⟨_, 2, rfl, by simp, by decide, .inr ⟨b, 0, rfl, fun i z hz => ?_⟩⟩
 match i, hz with
 | 0, hz => cases hz; exact (h.get 0 rfl).1
 | 1, hz => cases hz; exact (h.get 1 rfl).1
 | i + 2, hz => simp at hz
theorem rowN_oneC {W : World} {b : Nat} {x : Int} (h : Cells W b [.int .i64 x]) : RowN W (.slice (some ⟨b, 0, none⟩) 1 1) [x] := by
 refine ⟨_, 1, rfl, by simp, by decide, .inr ⟨b, 0, rfl, fun i z hz => ?_⟩⟩
 match i, hz with
 | 0, hz => cases hz; exact (h.get 0 rfl).1
 | i + 1, hz => simp at hz

end Go.Proofs.YtoaldbjcpfkcjaaGreat

namespace Go.Proofs.YtoaldbjcpfkcjaaGreat
open Go.RowKit Go.Lib

set_option linter.unusedSimpArgs false in
set_option maxRecDepth 100000 in
set_option maxHeartbeats 4000000 in
theorem sane_any (w : World) : Calls Tryz.prog 8 #[] w fun e w' => e = .returned (.bool true) ∧ Below w.heap.size w w' := by
 go_enter Tryz.func8, Tryz.ntmps8
 go_wp2_with fail
 refine (way_any 1 0 0 10 0 _).mono ?_
 rintro e w1 ⟨u1, rfl, R1, B1⟩
 have R10 := R1
 obtain ⟨a1, c1, rfl, -⟩ := R10
 skip
 simp only [wv, exw, List.length_cons, List.length_nil, Nat.zero_add, Nat.reduceAdd]
 simp only [List.length_cons, List.length_nil, Nat.zero_add, Nat.reduceAdd] at R1
 go_wp2_with fail
 refine (way_any 2 10 0 10 10 _).mono ?_
 rintro e w2 ⟨u2, rfl, R2, B2⟩
 have R20 := R2
 obtain ⟨a2, c2, rfl, -⟩ := R20
 skip
 simp only [wv, exw, List.length_cons, List.length_nil, Nat.zero_add, Nat.reduceAdd]
 simp only [List.length_cons, List.length_nil, Nat.zero_add, Nat.reduceAdd] at R2
 go_wp2_with fail
 refine (way_any 3 5 (-5) 5 5 _).mono ?_
 rintro e w3 ⟨u3, rfl, R3, B3⟩
 have R30 := R3
 obtain ⟨a3, c3, rfl, -⟩ := R30
 skip
 simp only [wv, exw, List.length_cons, List.length_nil, Nat.zero_add, Nat.reduceAdd]
 simp only [List.length_cons, List.length_nil, Nat.zero_add, Nat.reduceAdd] at R3
 replace R1 := (R1.later B2).later B3
 replace R2 := R2.later B3
 have HB := Lib.hid ((B1.trans (B2.mono B1.size)).trans (B3.mono (Nat.le_trans B1.size B2.size)))
 have C0 := Has.nil (Below.refl w3.heap.size w3)
 clear B1 B2 B3
 have C1 := ((C0.push [.int .i64 0, .slice none 0 0, .int .i64 0, .string { data := #[] }, .string { data := #[] }, .bool false, .int .i64 0, .int .i64 0] 44).push [.int .i64 0, .slice none 0 0, .int .i64 0, .string { data := #[] }, .string { data := #[] }, .bool false, .int .i64 0, .int .i64 0] 44).push [.int .i64 0, .slice none 0 0, .int .i64 0, .string { data := #[] }, .string { data := #[] }, .bool false, .int .i64 0, .int .i64 0] 44
 simp only [size_alloc] at C1
 skip
 go_wp2_with (refine wpList_store_has (vs := [.int .i64 1, .slice a1 2 c1, .int .i64 0, .string { data := #[] }, .string { data := #[] }, .bool false, .int .i64 1, .int .i64 0]) rfl rfl rfl ?_ ?_ C1.third rfl (by kernel_rfl) (by simp [Value.oneCell']) ?_)
 ·rfl
 ·rfl
 rintro w4 C2 -
 go_wp2_with (refine wpList_store_has (vs := [.int .i64 2, .slice a2 2 c2, .int .i64 0, .string { data := #[] }, .string { data := #[] }, .bool false, .int .i64 1, .int .i64 0]) rfl rfl rfl ?_ ?_ C2.third rfl (by kernel_rfl) (by simp [Value.oneCell']) ?_)
 ·rfl
 ·rfl
 rintro w5 C3 -
 go_wp2_with (refine wpList_store_has (vs := [.int .i64 3, .slice a3 2 c3, .int .i64 0, .string { data := #[] }, .string { data := #[] }, .bool false, .int .i64 1, .int .i64 0]) rfl rfl rfl ?_ ?_ C3.third rfl (by kernel_rfl) (by simp [Value.oneCell']) ?_)
 ·rfl
 ·rfl
 rintro w6 C4 -
 clear C0 C1 C2 C3
 skip
 go_upto_region 2 with fail
 generalize w3.heap.size = N at *
 obtain ⟨d0, d1, d2, d3, d4, d5, d6, d7⟩ := C4.wy
 have C5 := C4.push [.int .i64 0, .slice none 0 0, .int .i64 0, .string { data := #[] }, .string { data := #[] }, .bool false, .int .i64 0, .int .i64 0] 44
 go_wp2_with (refine wpList_store_has (vs := [.int .i64 3, .slice a3 2 c3, .int .i64 0, .string { data := #[] }, .string { data := #[] }, .bool false, .int .i64 1, .int .i64 0]) rfl rfl rfl ?_ ?_ C5 rfl (by kernel_rfl) (by simp [Value.oneCell']) ?_)
 ·rfl
 ·rfl
 rintro w7 C6 -
 clear d0 d1 d2 d3 d4 d5 d6 d7 C4 C5
 go_upto_region 3 with fail
 generalize w6.heap.size = M at *
 have k0 := C6.fact (.head _) (i := 0) rfl
 have k2 := C6.fact (.head _) (i := 2) rfl
 have f0 := C6.free (.head _) (i := 0) rfl
 have f2 := C6.free (.head _) (i := 2) rfl
 have C7 := (C6.set 0 (by simp) (.int .i64 4)).set 2 (by simp) (.int .i64 1)
 go_upto_region 5 with fail
 change Has w3 [(M, [.int .i64 4, .slice a3 2 c3, .int .i64 1, .string { data := #[] }, .string { data := #[] }, .bool false, .int .i64 1, .int .i64 0]), (N + 1 + 1, [.int .i64 3, .slice a3 2 c3, .int .i64 0, .string { data := #[] }, .string { data := #[] }, .bool false, .int .i64 1, .int .i64 0]), (N + 1, [.int .i64 2, .slice a2 2 c2, .int .i64 0, .string { data := #[] }, .string { data := #[] }, .bool false, .int .i64 1, .int .i64 0]), (N, [.int .i64 1, .slice a1 2 c1, .int .i64 0, .string { data := #[] }, .string { data := #[] }, .bool false, .int .i64 1, .int .i64 0])] ((w7.setCell ⟨M, 0, none⟩ (.int .i64 4)).setCell ⟨M, 2, none⟩ (.int .i64 1)) at C7
 generalize (w7.setCell ⟨M, 0, none⟩ (.int .i64 4)).setCell ⟨M, 2, none⟩ (.int .i64 1) = w8 at *
 clear C6 k0 k2 f0 f2
 skip
 obtain ⟨kA0, kA1, kA2, kA3, kA4, kA5, kA6, kA7⟩ := C7.tail.tail.tail.wy
 obtain ⟨kB0, kB1, kB2, kB3, kB4, kB5, kB6, kB7⟩ := C7.tail.tail.wy
 obtain ⟨kC0, kC1, kC2, kC3, kC4, kC5, kC6, kC7⟩ := C7.tail.wy
 obtain ⟨kD0, kD1, kD2, kD3, kD4, kD5, kD6, kD7⟩ := C7.wy
 have X0 := C7.push [.int .i64 1, .slice a1 2 c1, .int .i64 0, .string { data := #[] }, .string { data := #[] }, .bool false, .int .i64 1, .int .i64 0, .int .i64 2, .slice a2 2 c2, .int .i64 0, .string { data := #[] }, .string { data := #[] }, .bool false, .int .i64 1, .int .i64 0] 44
 have Y0 := RowW.block (c := 2) (us := [.slice a1 2 c1, .slice a2 2 c2]) (es := [exA, exB]) (show Cells _ _ (flatW [.slice a1 2 c1, .slice a2 2 c2] [exA, exB]) from X0.cells) rfl (by intro p hp; simp only [List.zip_cons_cons, List.zip_nil_left, List.mem_cons, List.not_mem_nil, or_false] at hp; rcases hp with rfl | rfl <;> first | exact R1.later X0.low | exact R2.later X0.low | exact R3.later X0.low) (by simp) (by decide)
 change RowW (w8.alloc (.cells #[.int .i64 1, .slice a1 2 c1, .int .i64 0, .string { data := #[] }, .string { data := #[] }, .bool false, .int .i64 1, .int .i64 0, .int .i64 2, .slice a2 2 c2, .int .i64 0, .string { data := #[] }, .string { data := #[] }, .bool false, .int .i64 1, .int .i64 0] 44)) (.slice (some ⟨w8.heap.size, 0, none⟩) 2 2) _ at Y0
 change Has w3 _ (w8.alloc (.cells #[.int .i64 1, .slice a1 2 c1, .int .i64 0, .string { data := #[] }, .string { data := #[] }, .bool false, .int .i64 1, .int .i64 0, .int .i64 2, .slice a2 2 c2, .int .i64 0, .string { data := #[] }, .string { data := #[] }, .bool false, .int .i64 1, .int .i64 0] 44)) at X0
 go_wp2_with fail
 refine (Has.call X0 (checkn_is _ _ 0 val1 _ Y0)).mono ?_
 rintro e w9 ⟨rfl, Z0⟩
 have C9 := Z0.tail
 clear kA0 kA1 kA2 kA3 kA4 kA5 kA6 kA7 kB0 kB1 kB2 kB3 kB4 kB5 kB6 kB7 kC0 kC1 kC2 kC3 kC4 kC5 kC6 kC7 kD0 kD1 kD2 kD3 kD4 kD5 kD6 kD7
 clear X0 Y0 Z0 C7
 obtain ⟨kA0, kA1, kA2, kA3, kA4, kA5, kA6, kA7⟩ := C9.tail.tail.tail.wy
 obtain ⟨kB0, kB1, kB2, kB3, kB4, kB5, kB6, kB7⟩ := C9.tail.tail.wy
 obtain ⟨kC0, kC1, kC2, kC3, kC4, kC5, kC6, kC7⟩ := C9.tail.wy
 obtain ⟨kD0, kD1, kD2, kD3, kD4, kD5, kD6, kD7⟩ := C9.wy
 have X1 := C9.push [.int .i64 1, .slice a1 2 c1, .int .i64 0, .string { data := #[] }, .string { data := #[] }, .bool false, .int .i64 1, .int .i64 0, .int .i64 3, .slice a3 2 c3, .int .i64 0, .string { data := #[] }, .string { data := #[] }, .bool false, .int .i64 1, .int .i64 0] 44
 have Y1 := RowW.block (c := 2) (us := [.slice a1 2 c1, .slice a3 2 c3]) (es := [exA, exC]) (show Cells _ _ (flatW [.slice a1 2 c1, .slice a3 2 c3] [exA, exC]) from X1.cells) rfl (by intro p hp; simp only [List.zip_cons_cons, List.zip_nil_left, List.mem_cons, List.not_mem_nil, or_false] at hp; rcases hp with rfl | rfl <;> first | exact R1.later X1.low | exact R2.later X1.low | exact R3.later X1.low) (by simp) (by decide)
 change RowW (w9.alloc (.cells #[.int .i64 1, .slice a1 2 c1, .int .i64 0, .string { data := #[] }, .string { data := #[] }, .bool false, .int .i64 1, .int .i64 0, .int .i64 3, .slice a3 2 c3, .int .i64 0, .string { data := #[] }, .string { data := #[] }, .bool false, .int .i64 1, .int .i64 0] 44)) (.slice (some ⟨w9.heap.size, 0, none⟩) 2 2) _ at Y1
 change Has w3 _ (w9.alloc (.cells #[.int .i64 1, .slice a1 2 c1, .int .i64 0, .string { data := #[] }, .string { data := #[] }, .bool false, .int .i64 1, .int .i64 0, .int .i64 3, .slice a3 2 c3, .int .i64 0, .string { data := #[] }, .string { data := #[] }, .bool false, .int .i64 1, .int .i64 0] 44)) at X1
 go_wp2_with fail
 refine (Has.call X1 (checkn_is _ _ 16 val2 _ Y1)).mono ?_
 rintro e w10 ⟨rfl, Z1⟩
 have C10 := Z1.tail
 clear kA0 kA1 kA2 kA3 kA4 kA5 kA6 kA7 kB0 kB1 kB2 kB3 kB4 kB5 kB6 kB7 kC0 kC1 kC2 kC3 kC4 kC5 kC6 kC7 kD0 kD1 kD2 kD3 kD4 kD5 kD6 kD7
 clear X1 Y1 Z1 C9
 obtain ⟨kA0, kA1, kA2, kA3, kA4, kA5, kA6, kA7⟩ := C10.tail.tail.tail.wy
 obtain ⟨kB0, kB1, kB2, kB3, kB4, kB5, kB6, kB7⟩ := C10.tail.tail.wy
 obtain ⟨kC0, kC1, kC2, kC3, kC4, kC5, kC6, kC7⟩ := C10.tail.wy
 obtain ⟨kD0, kD1, kD2, kD3, kD4, kD5, kD6, kD7⟩ := C10.wy
 have X2 := C10.push [.int .i64 1, .slice a1 2 c1, .int .i64 0, .string { data := #[] }, .string { data := #[] }, .bool false, .int .i64 1, .int .i64 0, .int .i64 4, .slice a3 2 c3, .int .i64 1, .string { data := #[] }, .string { data := #[] }, .bool false, .int .i64 1, .int .i64 0] 44
 have Y2 := RowW.block (c := 2) (us := [.slice a1 2 c1, .slice a3 2 c3]) (es := [exA, exD]) (show Cells _ _ (flatW [.slice a1 2 c1, .slice a3 2 c3] [exA, exD]) from X2.cells) rfl (by intro p hp; simp only [List.zip_cons_cons, List.zip_nil_left, List.mem_cons, List.not_mem_nil, or_false] at hp; rcases hp with rfl | rfl <;> first | exact R1.later X2.low | exact R2.later X2.low | exact R3.later X2.low) (by simp) (by decide)
 change RowW (w10.alloc (.cells #[.int .i64 1, .slice a1 2 c1, .int .i64 0, .string { data := #[] }, .string { data := #[] }, .bool false, .int .i64 1, .int .i64 0, .int .i64 4, .slice a3 2 c3, .int .i64 1, .string { data := #[] }, .string { data := #[] }, .bool false, .int .i64 1, .int .i64 0] 44)) (.slice (some ⟨w10.heap.size, 0, none⟩) 2 2) _ at Y2
 change Has w3 _ (w10.alloc (.cells #[.int .i64 1, .slice a1 2 c1, .int .i64 0, .string { data := #[] }, .string { data := #[] }, .bool false, .int .i64 1, .int .i64 0, .int .i64 4, .slice a3 2 c3, .int .i64 1, .string { data := #[] }, .string { data := #[] }, .bool false, .int .i64 1, .int .i64 0] 44)) at X2
 go_wp2_with fail
 refine (Has.call X2 (checkn_is _ _ 0 val3 _ Y2)).mono ?_
 rintro e w11 ⟨rfl, Z2⟩
 have C11 := Z2.tail
 clear kA0 kA1 kA2 kA3 kA4 kA5 kA6 kA7 kB0 kB1 kB2 kB3 kB4 kB5 kB6 kB7 kC0 kC1 kC2 kC3 kC4 kC5 kC6 kC7 kD0 kD1 kD2 kD3 kD4 kD5 kD6 kD7
 clear X2 Y2 Z2 C10
 obtain ⟨kA0, kA1, kA2, kA3, kA4, kA5, kA6, kA7⟩ := C11.tail.tail.tail.wy
 obtain ⟨kB0, kB1, kB2, kB3, kB4, kB5, kB6, kB7⟩ := C11.tail.tail.wy
 obtain ⟨kC0, kC1, kC2, kC3, kC4, kC5, kC6, kC7⟩ := C11.tail.wy
 obtain ⟨kD0, kD1, kD2, kD3, kD4, kD5, kD6, kD7⟩ := C11.wy
 go_wp2_with fail
 refine (Has.call C11 (joined_is exA exB (.slice a1 2 c1) (.slice a2 2 c2) true val4 _ (R1.later C11.low) (R2.later C11.low))).mono ?_
 rintro e w12 ⟨rfl, C12⟩
 clear kA0 kA1 kA2 kA3 kA4 kA5 kA6 kA7 kB0 kB1 kB2 kB3 kB4 kB5 kB6 kB7 kC0 kC1 kC2 kC3 kC4 kC5 kC6 kC7 kD0 kD1 kD2 kD3 kD4 kD5 kD6 kD7
 clear C11
 obtain ⟨kA0, kA1, kA2, kA3, kA4, kA5, kA6, kA7⟩ := C12.tail.tail.tail.wy
 obtain ⟨kB0, kB1, kB2, kB3, kB4, kB5, kB6, kB7⟩ := C12.tail.tail.wy
 obtain ⟨kC0, kC1, kC2, kC3, kC4, kC5, kC6, kC7⟩ := C12.tail.wy
 obtain ⟨kD0, kD1, kD2, kD3, kD4, kD5, kD6, kD7⟩ := C12.wy
 go_wp2_with fail
 refine (Has.call C12 (joined_is exA exD (.slice a1 2 c1) (.slice a3 2 c3) false val5 _ (R1.later C12.low) (R3.later C12.low))).mono ?_
 rintro e w13 ⟨rfl, C13⟩
 clear kA0 kA1 kA2 kA3 kA4 kA5 kA6 kA7 kB0 kB1 kB2 kB3 kB4 kB5 kB6 kB7 kC0 kC1 kC2 kC3 kC4 kC5 kC6 kC7 kD0 kD1 kD2 kD3 kD4 kD5 kD6 kD7
 clear C12
 obtain ⟨kA0, kA1, kA2, kA3, kA4, kA5, kA6, kA7⟩ := C13.tail.tail.tail.wy
 obtain ⟨kB0, kB1, kB2, kB3, kB4, kB5, kB6, kB7⟩ := C13.tail.tail.wy
 obtain ⟨kC0, kC1, kC2, kC3, kC4, kC5, kC6, kC7⟩ := C13.tail.wy
 obtain ⟨kD0, kD1, kD2, kD3, kD4, kD5, kD6, kD7⟩ := C13.wy
 go_wp2_with fail
 refine (Has.call C13 (crossw_is exA exC (.slice a1 2 c1) (.slice a3 2 c3) false val6 _ (R1.later C13.low) (R3.later C13.low))).mono ?_
 rintro e w14 ⟨rfl, C14⟩
 clear kA0 kA1 kA2 kA3 kA4 kA5 kA6 kA7 kB0 kB1 kB2 kB3 kB4 kB5 kB6 kB7 kC0 kC1 kC2 kC3 kC4 kC5 kC6 kC7 kD0 kD1 kD2 kD3 kD4 kD5 kD6 kD7
 clear C13
 obtain ⟨kA0, kA1, kA2, kA3, kA4, kA5, kA6, kA7⟩ := C14.tail.tail.tail.wy
 obtain ⟨kB0, kB1, kB2, kB3, kB4, kB5, kB6, kB7⟩ := C14.tail.tail.wy
 obtain ⟨kC0, kC1, kC2, kC3, kC4, kC5, kC6, kC7⟩ := C14.tail.wy
 obtain ⟨kD0, kD1, kD2, kD3, kD4, kD5, kD6, kD7⟩ := C14.wy
 go_wp2_with fail
 refine (Has.call C14 (crossw_is exA exD (.slice a1 2 c1) (.slice a3 2 c3) true val7 _ (R1.later C14.low) (R3.later C14.low))).mono ?_
 rintro e w15 ⟨rfl, C15⟩
 clear kA0 kA1 kA2 kA3 kA4 kA5 kA6 kA7 kB0 kB1 kB2 kB3 kB4 kB5 kB6 kB7 kC0 kC1 kC2 kC3 kC4 kC5 kC6 kC7 kD0 kD1 kD2 kD3 kD4 kD5 kD6 kD7
 clear C14
 obtain ⟨kA0, kA1, kA2, kA3, kA4, kA5, kA6, kA7⟩ := C15.tail.tail.tail.wy
 obtain ⟨kB0, kB1, kB2, kB3, kB4, kB5, kB6, kB7⟩ := C15.tail.tail.wy
 obtain ⟨kC0, kC1, kC2, kC3, kC4, kC5, kC6, kC7⟩ := C15.tail.wy
 obtain ⟨kD0, kD1, kD2, kD3, kD4, kD5, kD6, kD7⟩ := C15.wy
 go_wp2_with fail
 refine (Has.call C15 (stops_at exB (.slice a2 2 c2) 10 0 0 10 10 0 rfl rfl _ (R2.later C15.low))).mono ?_
 rintro e w16 ⟨rfl, C16⟩
 clear kA0 kA1 kA2 kA3 kA4 kA5 kA6 kA7 kB0 kB1 kB2 kB3 kB4 kB5 kB6 kB7 kC0 kC1 kC2 kC3 kC4 kC5 kC6 kC7 kD0 kD1 kD2 kD3 kD4 kD5 kD6 kD7
 clear C15
 have X7 := (C16.push [.int .i64 0, .int .i64 0, .int .i64 0] 39).push [.int .i64 0, .int .i64 0, .int .i64 0] 39
 simp only [size_alloc] at X7
 go_wp2_with (refine wpList_store_has (vs := [.int .i64 10, .int .i64 0, .int .i64 0]) rfl rfl rfl ?_ ?_ X7.swap rfl (by kernel_rfl) (by simp [Value.oneCell']) ?_)
 ·rfl
 ·rfl
 rintro w17 X8 -
 go_wp2_with (refine wpList_store_has (vs := [.int .i64 10, .int .i64 10, .int .i64 0]) rfl rfl rfl ?_ ?_ X8.swap rfl (by kernel_rfl) (by simp [Value.oneCell']) ?_)
 ·rfl
 ·rfl
 rintro w18 X9 -
 have C18 := X9.tail.tail
 have x0 := X9.fact (.head _) (i := 0) rfl
 have x1 := X9.fact (.head _) (i := 1) rfl
 have x2 := X9.fact (.head _) (i := 2) rfl
 have y0 := X9.tail.fact (.head _) (i := 0) rfl
 have y1 := X9.tail.fact (.head _) (i := 1) rfl
 have y2 := X9.tail.fact (.head _) (i := 2) rfl
 clear X7 X8 X9 C16
 obtain ⟨kA0, kA1, kA2, kA3, kA4, kA5, kA6, kA7⟩ := C18.tail.tail.tail.wy
 obtain ⟨kB0, kB1, kB2, kB3, kB4, kB5, kB6, kB7⟩ := C18.tail.tail.wy
 obtain ⟨kC0, kC1, kC2, kC3, kC4, kC5, kC6, kC7⟩ := C18.tail.wy
 obtain ⟨kD0, kD1, kD2, kD3, kD4, kD5, kD6, kD7⟩ := C18.wy
 have X3 := C18.push [.int .i64 2, .slice a2 2 c2, .int .i64 0, .string { data := #[] }, .string { data := #[] }, .bool false, .int .i64 1, .int .i64 0, .int .i64 4, .slice a3 2 c3, .int .i64 1, .string { data := #[] }, .string { data := #[] }, .bool false, .int .i64 1, .int .i64 0, .int .i64 1, .slice a1 2 c1, .int .i64 0, .string { data := #[] }, .string { data := #[] }, .bool false, .int .i64 1, .int .i64 0] 44
 have Y3 := RowW.block (c := 3) (us := [.slice a2 2 c2, .slice a3 2 c3, .slice a1 2 c1]) (es := [exB, exD, exA]) (show Cells _ _ (flatW [.slice a2 2 c2, .slice a3 2 c3, .slice a1 2 c1] [exB, exD, exA]) from X3.cells) rfl (by intro p hp; simp only [List.zip_cons_cons, List.zip_nil_left, List.mem_cons, List.not_mem_nil, or_false] at hp; rcases hp with rfl | rfl | rfl <;> first | exact R1.later X3.low | exact R2.later X3.low | exact R3.later X3.low) (by simp) (by decide)
 change RowW (w18.alloc (.cells #[.int .i64 2, .slice a2 2 c2, .int .i64 0, .string { data := #[] }, .string { data := #[] }, .bool false, .int .i64 1, .int .i64 0, .int .i64 4, .slice a3 2 c3, .int .i64 1, .string { data := #[] }, .string { data := #[] }, .bool false, .int .i64 1, .int .i64 0, .int .i64 1, .slice a1 2 c1, .int .i64 0, .string { data := #[] }, .string { data := #[] }, .bool false, .int .i64 1, .int .i64 0] 44)) (.slice (some ⟨w18.heap.size, 0, none⟩) 3 3) _ at Y3
 change Has w3 _ (w18.alloc (.cells #[.int .i64 2, .slice a2 2 c2, .int .i64 0, .string { data := #[] }, .string { data := #[] }, .bool false, .int .i64 1, .int .i64 0, .int .i64 4, .slice a3 2 c3, .int .i64 1, .string { data := #[] }, .string { data := #[] }, .bool false, .int .i64 1, .int .i64 0, .int .i64 1, .slice a1 2 c1, .int .i64 0, .string { data := #[] }, .string { data := #[] }, .bool false, .int .i64 1, .int .i64 0] 44)) at X3
 go_wp2_with fail
 refine (groups_any exK _ _ Y3 (by simp)).mono ?_
 rintro e w19 ⟨v, rfl, G, B⟩
 have C19 := (X3.later B).tail
 have HG := G.row
 rw [val9] at HG
 skip
 clear kA0 kA1 kA2 kA3 kA4 kA5 kA6 kA7 kB0 kB1 kB2 kB3 kB4 kB5 kB6 kB7 kC0 kC1 kC2 kC3 kC4 kC5 kC6 kC7 kD0 kD1 kD2 kD3 kD4 kD5 kD6 kD7
 clear X3 Y3 C18
 have X4 := (((C19.push [.int .i64 1, .int .i64 2] 3).push [.int .i64 4] 3).push [.slice (some ⟨w19.heap.size, 0, none⟩) 2 2, .slice (some ⟨w19.heap.size + 1, 0, none⟩) 1 1] 22)
 simp only [size_alloc] at X4
 have gg : Grows w19 (((w19.alloc (.cells #[.int .i64 1, .int .i64 2] 3)).alloc (.cells #[.int .i64 4] 3)).alloc (.cells #[.slice (some ⟨w19.heap.size, 0, none⟩) 2 2, .slice (some ⟨w19.heap.size + 1, 0, none⟩) 1 1] 22)) := ((Below.refl w19.heap.size w19).alloc (Nat.le_refl _) (.cells #[.int .i64 1, .int .i64 2] 3)).alloc (by rw [size_alloc]; omega) (.cells #[.int .i64 4] 3) |>.alloc (by rw [size_alloc, size_alloc]; omega) (.cells #[.slice (some ⟨w19.heap.size, 0, none⟩) 2 2, .slice (some ⟨w19.heap.size + 1, 0, none⟩) 1 1] 22)
 have HG2 := HG.later gg
 change Has w3 _ (((w19.alloc (.cells #[.int .i64 1, .int .i64 2] 3)).alloc (.cells #[.int .i64 4] 3)).alloc (.cells #[.slice (some ⟨w19.heap.size, 0, none⟩) 2 2, .slice (some ⟨w19.heap.size + 1, 0, none⟩) 1 1] 22)) at X4
 have HH : RowG (((w19.alloc (.cells #[.int .i64 1, .int .i64 2] 3)).alloc (.cells #[.int .i64 4] 3)).alloc (.cells #[.slice (some ⟨w19.heap.size, 0, none⟩) 2 2, .slice (some ⟨w19.heap.size + 1, 0, none⟩) 1 1] 22)) (.slice (some ⟨w19.heap.size + 1 + 1, 0, none⟩) 2 2) [[1, 2], [4]] := rowG_two X4.cells (rowN_two X4.tail.tail.cells) (rowN_oneC X4.tail.cells)
 skip
 clear HG gg G B
 go_wp2_with fail
 refine (Has.call X4 (samegroups_any v _ [[1, 2], [4]] _ HG2 HH)).mono ?_
 rintro e w20 ⟨rfl, C20⟩
 have BB := HB.out.trans (C20.low.mono HB.out.size)
 go_wp2_with fail
 go_ret
 exact ⟨rfl, BB⟩

end Go.Proofs.YtoaldbjcpfkcjaaGreat
