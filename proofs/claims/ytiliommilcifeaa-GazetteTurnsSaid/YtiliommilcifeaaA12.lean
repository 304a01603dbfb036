/- The examples at the head of every law. -/
import Derived.Test.YtiliommilcifeaaA11
namespace Go.Proofs.Ytiliommilcifeaa
open Go.RowKit Go.Lib Go.Sort

theorem right_is (s : List UInt8) (r : Bool) (h : rightN s = r) (hs : Fits s) (w : World) : Calls Try.prog 11 #[str s] w fun e w' => e = .returned (.bool r) ∧ w = w' := h ▸ right_any s hs w
theorem class_is (s : List UInt8) (r : Bool) (h : classN s = r) (hs : Fits s) (w : World) : Calls Try.prog 13 #[str s] w fun e w' => e = .returned (.bool r) ∧ w = w' := h ▸ class_any s hs w
theorem fold_is (s t : List UInt8) (h : fold s = t) (hs : Fits s) (w : World) : Calls Try.prog 15 #[str s] w fun e w' => e = .returned (str t) ∧ Grows w w' := h ▸ fold_any s hs w
theorem less_is (a b : List UInt8) (r : Bool) (h : lessN a b = r) (hs : Fits a) (w : World) : Calls Try.prog 17 #[str a, str b] w fun e w' => e = .returned (.bool r) ∧ Grows w w' := h ▸ less_any a b hs w
theorem same_is (u v : Value) (xs ys : List Int) (w : World) (hu : Row tI w u xs) (hv : Row tI w v ys) (r : Bool) (h : decide (xs = ys) = r) : Calls Try.prog 20 #[u, v] w fun e w' => e = .returned (.bool r) ∧ Grows w w' :=
  (same_any u v xs ys w hu hv).mono fun _ _ ⟨h1, h2⟩ => ⟨h ▸ h1, h2.grows⟩
def exs : List Pl := [⟨5, 0, 0, [], [79, 97, 107, 32, 71, 97, 116, 101], 3, 0⟩, ⟨2, 0, 0, [], [111, 97, 107], 3, 0⟩, ⟨7, 0, 0, [], [77, 105, 108, 108], 9, 0⟩, ⟨4, 0, 0, [], [79, 65, 75, 32, 71, 65, 84, 69], 3, 0⟩, ⟨6, 0, 0, [], [], 8, 0⟩]
theorem exs_fine : Fine exs := ⟨by decide, fun p hp => by
  simp only [exs, List.mem_cons, List.not_mem_nil, or_false] at hp
  rcases hp with rfl | rfl | rfl | rfl | rfl <;> (unfold Fits; decide)⟩
def keysOf (ps : List Pl) (pre : List UInt8) : List Key := (ps.filter fun p => beg pre p.nm).map Pl.key
theorem found_is {ps : List Pl} {pre : List UInt8} (ks : List Key) (h : ks.isPerm (keysOf ps pre) = true) (hs : ks.Pairwise (fun x y => leK x y = true)) : found ps pre = ks.map fun k => k.2.2 := by
  have := sortK_eq (List.isPerm_iff.1 h) hs
  unfold keysOf at this
  unfold found foundK
  rw [← this]
theorem found1 : found exs [111, 65, 107] = [2, 4, 5] := found_is [(3, [111, 97, 107], 2), (3, [79, 65, 75, 32, 71, 65, 84, 69], 4), (3, [79, 97, 107, 32, 71, 97, 116, 101], 5)] (by decide +kernel) (by decide +kernel)
theorem found2 : found exs [] = [7, 2, 4, 5] := found_is [(9, [77, 105, 108, 108], 7), (3, [111, 97, 107], 2), (3, [79, 65, 75, 32, 71, 65, 84, 69], 4), (3, [79, 97, 107, 32, 71, 97, 116, 101], 5)] (by decide +kernel) (by decide +kernel)
theorem found3 : found exs [111, 97, 107, 32, 104] = [] := found_is [] (by decide +kernel) (by decide +kernel)
theorem named1 : namedI [] [] exs [111, 97, 107] = [2] := by decide +kernel

set_option maxRecDepth 100000 in
set_option maxHeartbeats 2000000 in
theorem example_any (w : World) : Calls Try.prog 25 #[] w fun e w' => (∃ v, e = .returned v ∧ Row tP w' v exs) ∧ Grows w w' := by
  have HR := Lib.hid (show Row tP (w.alloc (.cells (exs.flatMap tP.enc).toArray 36)) (.slice (some ⟨w.heap.size, 0, none⟩) 5 5) exs from row_cells (Cells.made w _ 36) (by decide) (by decide))
  have HG := Lib.hid (show Grows w (w.alloc (.cells (exs.flatMap tP.enc).toArray 36)) from (Below.refl _ _).alloc (Nat.le_refl _) _)
  go_enter Try.func25, Try.ntmps25
  go_wp2_with fail
  go_ret
  exact ⟨⟨_, rfl, HR.out⟩, HG.out⟩
set_option maxRecDepth 100000 in
set_option maxHeartbeats 8000000 in
theorem sane_any (w : World) : Calls Try.prog 9 #[] w fun e w' => e = .returned (.bool true) ∧ Grows w w' := by
  go_enter Try.func9, Try.ntmps9
  go_wp2_with fail
  refine (right_is [79, 97, 107, 32, 71, 97, 116, 101] true (by decide) (by unfold Fits; decide) _).mono ?_
  rintro e w1 ⟨rfl, rfl⟩
  go_wp2_with fail
  refine (right_is [] false (by decide) (by unfold Fits; decide) _).mono ?_
  rintro e w1 ⟨rfl, rfl⟩
  go_wp2_with fail
  refine (right_is [32, 120] false (by decide) (by unfold Fits; decide) _).mono ?_
  rintro e w1 ⟨rfl, rfl⟩
  go_wp2_with fail
  refine (right_is [97, 34, 98] false (by decide) (by unfold Fits; decide) _).mono ?_
  rintro e w1 ⟨rfl, rfl⟩
  go_wp2_with fail
  refine (class_is [109, 105, 108, 108] true (by decide) (by unfold Fits; decide) _).mono ?_
  rintro e w1 ⟨rfl, rfl⟩
  go_wp2_with fail
  refine (class_is [77, 105, 108, 108] false (by decide) (by unfold Fits; decide) _).mono ?_
  rintro e w1 ⟨rfl, rfl⟩
  go_wp2_with fail
  refine (class_is [] false (by decide) (by unfold Fits; decide) _).mono ?_
  rintro e w1 ⟨rfl, rfl⟩
  go_wp2_with fail
  refine (fold_is [79, 97, 107, 32, 71, 97, 116, 101, 32, 55] [111, 97, 107, 32, 103, 97, 116, 101, 32, 55] (by decide) (by unfold Fits; decide) _).mono ?_
  rintro e w1 ⟨rfl, g1⟩
  unfold str
  go_wp2_with fail
  refine (less_is [111, 97, 107] [79, 97, 107, 32, 71, 97, 116, 101] true (by decide) (by unfold Fits; decide) _).mono ?_
  rintro e w2 ⟨rfl, g2⟩
  go_wp2_with fail
  refine (less_is [79, 65, 75, 32, 71, 65, 84, 69] [79, 97, 107, 32, 71, 97, 116, 101] true (by decide) (by unfold Fits; decide) _).mono ?_
  rintro e w3 ⟨rfl, g3⟩
  go_wp2_with fail
  refine (less_is [98] [65] false (by decide) (by unfold Fits; decide) _).mono ?_
  rintro e w4 ⟨rfl, g4⟩
  go_wp2_with fail
  have G4 := Lib.hid (((g1.then g2).then g3).then g4)
  clear g1 g2 g3 g4
  refine (example_any _).mono ?_
  rintro e w5 ⟨⟨v, rfl, hR⟩, g5⟩
  obtain ⟨va, vn, vc, rfl, -, -, -, hR⟩ := hR.form
  have G5 := Lib.hid (G4.out.then g5)
  have HR := Lib.hid hR
  clear g5 hR G4
  go_wp2_with fail
  refine (find_any (.slice va vn vc) exs [111, 65, 107] _ HR.out exs_fine (by unfold Fits; decide)).mono ?_
  rintro e w6 ⟨⟨u, rfl, hO⟩, g⟩
  rw [found1] at hO
  have gA : Grows w6 (w6.alloc (.cells #[.int .i64 2, .int .i64 4, .int .i64 5] 3)) := (Below.refl _ _).alloc (Nat.le_refl _) _
  have HL := Lib.hid (show Row tI (w6.alloc (.cells #[.int .i64 2, .int .i64 4, .int .i64 5] 3)) (.slice (some ⟨w6.heap.size, 0, none⟩) 3 3) [2, 4, 5] from row_cells (T := tI) (xs := [2, 4, 5]) (c := 3) (Cells.made w6 _ 3) (by decide) (by decide))
  have HU := Lib.hid ((hO.row).later gA)
  have G6 := Lib.hid ((G5.out.then g).then gA)
  have HR1 := Lib.hid ((HR.out.later g).later gA)
  clear hO g gA
  go_wp2_with fail
  refine (same_is _ _ _ _ _ HU.out HL.out true (by decide)).mono ?_
  rintro e w7 ⟨rfl, g⟩
  have G7 := Lib.hid (G6.out.then g)
  have HR1 := Lib.hid (HR1.out.later g)
  clear HL HU g
  go_wp2_with fail
  refine (find_any (.slice va vn vc) exs [] _ HR1.out exs_fine (by unfold Fits; decide)).mono ?_
  rintro e w8 ⟨⟨u, rfl, hO⟩, g⟩
  rw [found2] at hO
  have gA : Grows w8 (w8.alloc (.cells #[.int .i64 7, .int .i64 2, .int .i64 4, .int .i64 5] 3)) := (Below.refl _ _).alloc (Nat.le_refl _) _
  have HL := Lib.hid (show Row tI (w8.alloc (.cells #[.int .i64 7, .int .i64 2, .int .i64 4, .int .i64 5] 3)) (.slice (some ⟨w8.heap.size, 0, none⟩) 4 4) [7, 2, 4, 5] from row_cells (T := tI) (xs := [7, 2, 4, 5]) (c := 4) (Cells.made w8 _ 3) (by decide) (by decide))
  have HU := Lib.hid ((hO.row).later gA)
  have G8 := Lib.hid ((G7.out.then g).then gA)
  have HR2 := Lib.hid ((HR1.out.later g).later gA)
  clear hO g gA
  go_wp2_with fail
  refine (same_is _ _ _ _ _ HU.out HL.out true (by decide)).mono ?_
  rintro e w9 ⟨rfl, g⟩
  have G9 := Lib.hid (G8.out.then g)
  have HR2 := Lib.hid (HR2.out.later g)
  clear HL HU g
  go_wp2_with fail
  refine (find_any (.slice va vn vc) exs [111, 97, 107, 32, 104] _ HR2.out exs_fine (by unfold Fits; decide)).mono ?_
  rintro e w10 ⟨⟨u, rfl, hO⟩, g⟩
  rw [found3] at hO
  obtain ⟨ua, uc, rfl, -, -⟩ := hO.form
  have HR3 := Lib.hid (HR2.out.later g)
  have G10 := Lib.hid (G9.out.then g)
  clear hO g
  go_wp2_with fail
  refine (named_any (.slice none 0 0) (.slice none 0 0) (.slice va vn vc) [] [] exs [111, 97, 107] _ (Row.nil _) (Row.nil _) HR3.out (by decide)).mono ?_
  rintro e w11 ⟨⟨u, rfl, hO⟩, g⟩
  rw [named1] at hO
  have gA : Grows w11 (w11.alloc (.cells #[.int .i64 2] 3)) := (Below.refl _ _).alloc (Nat.le_refl _) _
  have HL := Lib.hid (show Row tI (w11.alloc (.cells #[.int .i64 2] 3)) (.slice (some ⟨w11.heap.size, 0, none⟩) 1 1) [2] from row_one w11 3 2 _ rfl)
  have HU := Lib.hid ((hO.row).later gA)
  have G11 := Lib.hid ((G10.out.then g).then gA)
  clear hO g gA
  go_wp2_with fail
  refine (same_is _ _ _ _ _ HU.out HL.out true (by decide)).mono ?_
  rintro e w12 ⟨rfl, g⟩
  have G12 := Lib.hid (G11.out.then g)
  clear HL HU g
  go_wp2_with fail
  go_ret
  exact ⟨rfl, G12.out⟩

end Go.Proofs.Ytiliommilcifeaa
