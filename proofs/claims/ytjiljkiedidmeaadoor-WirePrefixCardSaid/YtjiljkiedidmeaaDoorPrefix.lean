/- WirePrefix: the walk. -/
import Derived.Test.YtjiljkiedidmeaaDoorTrunc
import Derived.Test.YtjiljkiedidmeaaDoorHeld
namespace Go.Proofs.YtjiljkiedidmeaaDoor
open Go.RowKit Go.Lib

/-- Four strings in a row: the one of a kind. -/
theorem kind_cell {w : World} {g z : Nat} {N : Int} {s : List UInt8} {l : List Int} {t : List (List UInt8)} (hz : z < 4)
    (h : w.heap[g]? = some (.cells #[.string ⟨(encI N).toArray⟩, .string ⟨(encT s).toArray⟩, .string ⟨(encL encI l).toArray⟩, .string ⟨(encL encT t).toArray⟩] 9 (0, 0))) :
    w.cell? ⟨g, z, none⟩ = some (.string ⟨(encV z N s l t).toArray⟩) := by
  rw [cell_of_heap h]
  have h3 : z = 0 ∨ z = 1 ∨ z = 2 ∨ z = 3 := by omega
  rcases h3 with rfl | rfl | rfl | rfl <;> rfl

/-- Equal beginnings of two serializations are of equal values. -/
theorem Fits.front {α : Type} {rd : List UInt8 → Option (α × List UInt8)} {enc : α → List UInt8} {ok : α → Prop} (F : Fits rd enc ok) {a b : α} (ha : ok a) (hb : ok b) (h : (enc a).take (min (enc a).length (enc b).length) = (enc b).take (min (enc a).length (enc b).length)) : a = b := by
  by_cases hle : (enc a).length ≤ (enc b).length
  · rw [Nat.min_eq_left hle, List.take_length] at h
    have e : enc a ++ (enc b).drop (enc a).length = enc b ++ [] := by
      conv => lhs; lhs; rw [h]
      rw [List.take_append_drop, List.append_nil]
    exact (F.prefix_eq ha hb e).1
  · rw [Nat.min_eq_right (by omega), List.take_length] at h
    have e : enc a ++ [] = enc b ++ (enc a).drop (enc b).length := by
      conv => rhs; lhs; rw [← h]
      rw [List.take_append_drop, List.append_nil]
    exact (F.prefix_eq ha hb e).1

/-- Of one kind: the serializations are equal, their equally long beginnings are, the values are: all or none. -/
theorem same_key (z : Nat) {N1 N2 : Int} {s1 s2 : List UInt8} {l1 l2 : List Int} {t1 t2 : List (List UInt8)} (hz : z < 4) (hN1 : InI N1) (hN2 : InI N2) (hs1 : InT s1) (hs2 : InT s2)
    (hl1 : ∀ x ∈ l1, InI x) (hl2 : ∀ x ∈ l2, InI x) (ht1 : ∀ x ∈ t1, InT x) (ht2 : ∀ x ∈ t2, InT x) :
    ∃ B : Bool, (encV z N1 s1 l1 t1 == encV z N2 s2 l2 t2) = B ∧
      ((encV z N1 s1 l1 t1).take (min (encV z N1 s1 l1 t1).length (encV z N2 s2 l2 t2).length) == (encV z N2 s2 l2 t2).take (min (encV z N1 s1 l1 t1).length (encV z N2 s2 l2 t2).length)) = B ∧
      (z = 0 → (N1 == N2) = B) ∧ (z = 1 → (s1 == s2) = B) ∧ (z = 2 → decide (l1 = l2) = B) ∧ (z = 3 → decide (t1 = t2) = B) := by
  have gen : ∀ {α : Type} [DecidableEq α] {rd : List UInt8 → Option (α × List UInt8)} {enc : α → List UInt8} {ok : α → Prop}, Fits rd enc ok → ∀ a b : α, ok a → ok b →
      (enc a == enc b) = decide (a = b) ∧ ((enc a).take (min (enc a).length (enc b).length) == (enc b).take (min (enc a).length (enc b).length)) = decide (a = b) := by
    intro α _ rd enc ok F a b ha hb
    by_cases h : a = b
    · subst h; simp
    · have h1 : enc a ≠ enc b := fun e => h (F.prefix_eq ha hb (r := []) (s := []) (by rw [e])).1
      have h2 : (enc a).take (min (enc a).length (enc b).length) ≠ (enc b).take (min (enc a).length (enc b).length) := fun e => h (F.front ha hb e)
      rw [decide_eq_false h]
      exact ⟨beq_eq_false_iff_ne.2 h1, beq_eq_false_iff_ne.2 h2⟩
  have h3 : z = 0 ∨ z = 1 ∨ z = 2 ∨ z = 3 := by omega
  rcases h3 with rfl | rfl | rfl | rfl
  · obtain ⟨h1, h2⟩ := gen fitsI N1 N2 hN1 hN2
    exact ⟨_, h1, h2, fun _ => (by by_cases h : N1 = N2 <;> simp [h]), fun e => (by cases e), fun e => (by cases e), fun e => (by cases e)⟩
  · obtain ⟨h1, h2⟩ := gen fitsT s1 s2 hs1 hs2
    exact ⟨_, h1, h2, fun e => (by cases e), fun _ => (by by_cases h : s1 = s2 <;> simp [h]), fun e => (by cases e), fun e => (by cases e)⟩
  · obtain ⟨h1, h2⟩ := gen fitsIs l1 l2 hl1 hl2
    exact ⟨_, h1, h2, fun e => (by cases e), fun e => (by cases e), fun _ => rfl, fun e => (by cases e)⟩
  · obtain ⟨h1, h2⟩ := gen fitsTs t1 t2 ht1 ht2
    exact ⟨_, h1, h2, fun e => (by cases e), fun e => (by cases e), fun e => (by cases e), fun _ => rfl⟩

theorem alloc_lt (w : World) (o : Obj) : w.heap.size < (w.alloc o).heap.size := Nat.lt_of_lt_of_eq (Nat.lt_succ_self _) (Array.size_push _).symm

set_option linter.unusedSimpArgs false in
set_option maxRecDepth 100000 in
set_option maxHeartbeats 16000000 in
theorem prefix_walk (n1 : Nat) (N1 : Int) (s1 : List UInt8) (vl1 vt1 : Value) (l1 : List Int) (t1 : List (List UInt8)) (n2 : Nat) (N2 : Int) (s2 : List UInt8) (vl2 vt2 : Value) (l2 : List Int) (t2 : List (List UInt8)) (w : World) (E : Env w)
    (hN1 : InI N1) (hs1 : (s1.length : Int) ≤ 9223372036854775807) (h31 : Row w vl1 (ints l1)) (h41 : Row w vt1 (strs t1)) (hl1 : ∀ x ∈ l1, InI x) (ht1 : ∀ x ∈ t1, (x.length : Int) ≤ 9223372036854775807)
    (hN2 : InI N2) (hs2 : (s2.length : Int) ≤ 9223372036854775807) (h32 : Row w vl2 (ints l2)) (h42 : Row w vt2 (strs t2)) (hl2 : ∀ x ∈ l2, InI x) (ht2 : ∀ x ∈ t2, (x.length : Int) ≤ 9223372036854775807) :
    Calls Tryd.prog 8 #[.agg #[.int .u8 (n1 : Int), .int .i64 N1, .string ⟨s1.toArray⟩, vl1, vt1], .agg #[.int .u8 (n2 : Int), .int .i64 N2, .string ⟨s2.toArray⟩, vl2, vt2]] w fun e w' => e = .returned (.bool true) ∧ Grows w w' := by
  have hx1 := extract_take s1 100
  have hm1 := min_nat s1.length 100
  have hsz1 := size_of_list s1
  have hle1 : min s1.length 100 ≤ s1.length := Nat.min_le_left _ _
  have hS1 : (s1.take 100).length ≤ 100 := by rw [List.length_take]; omega
  rw [show (((100 : Nat) : Int)) = 100 from rfl] at hm1
  obtain ⟨a1, k1, rfl, hca1, hcb1, -⟩ := id h31
  obtain ⟨b1, j1, rfl, hcc1, hcd1, -⟩ := id h41
  have h31' := h31.first 20
  rw [ints_take] at h31'
  rw [ints_length] at h31 h31' hca1
  rw [strs_length] at h41 hcc1
  have hL201 : (l1.take 20).length ≤ 20 := by rw [List.length_take]; omega
  have hl201 : ∀ y ∈ l1.take 20, InI y := fun y hy => hl1 y (List.mem_of_mem_take hy)
  have hmin1 : min l1.length 20 = (l1.take 20).length := by rw [List.length_take]; omega
  have hlf1 : (l1.take 20).length ≤ k1 := by rw [List.length_take]; omega
  have hmm1 : min (l1.length : Int) 20 = (((l1.take 20).length : Nat) : Int) := by rw [← hmin1]; exact min_nat _ 20
  rw [hmin1] at h31'
  have hcb21 := cutOf_bytes t1
  have HL1 := Lib.hid hl201
  have HT1 := Lib.hid ht1
  clear hl201 ht1 hl1 hmin1 h31
  generalize l1.take 20 = L1 at *
  generalize s1.take 100 = S1 at *
  have h561 := size_of_list S1
  have hSb1 := encT_le hS1 (by omega)
  have hLb1 := ints_bytes HL1.out 20 hL201
  have hx2 := extract_take s2 100
  have hm2 := min_nat s2.length 100
  have hsz2 := size_of_list s2
  have hle2 : min s2.length 100 ≤ s2.length := Nat.min_le_left _ _
  have hS2 : (s2.take 100).length ≤ 100 := by rw [List.length_take]; omega
  rw [show (((100 : Nat) : Int)) = 100 from rfl] at hm2
  obtain ⟨a2, k2, rfl, hca2, hcb2, -⟩ := id h32
  obtain ⟨b2, j2, rfl, hcc2, hcd2, -⟩ := id h42
  have h32' := h32.first 20
  rw [ints_take] at h32'
  rw [ints_length] at h32 h32' hca2
  rw [strs_length] at h42 hcc2
  have hL202 : (l2.take 20).length ≤ 20 := by rw [List.length_take]; omega
  have hl202 : ∀ y ∈ l2.take 20, InI y := fun y hy => hl2 y (List.mem_of_mem_take hy)
  have hmin2 : min l2.length 20 = (l2.take 20).length := by rw [List.length_take]; omega
  have hlf2 : (l2.take 20).length ≤ k2 := by rw [List.length_take]; omega
  have hmm2 : min (l2.length : Int) 20 = (((l2.take 20).length : Nat) : Int) := by rw [← hmin2]; exact min_nat _ 20
  rw [hmin2] at h32'
  have hcb22 := cutOf_bytes t2
  have HL2 := Lib.hid hl202
  have HT2 := Lib.hid ht2
  clear hl202 ht2 hl2 hmin2 h32
  generalize l2.take 20 = L2 at *
  generalize s2.take 100 = S2 at *
  have h562 := size_of_list S2
  have hSb2 := encT_le hS2 (by omega)
  have hLb2 := ints_bytes HL2.out 20 hL202
  rw [ints_length, strs_length, ints_length, strs_length]
  go_enter Tryd.func8, Tryd.ntmps8
  go_wp2_with fail
  refine (sane _ ((E.alloc _).alloc _)).mono ?_
  rintro e w1 ⟨rfl, g1⟩
  go_wp2_with fail
  have ga : Grows w (w.alloc (.cells #[.int .u8 (n1 : Int), .int .i64 N1, .string ⟨s1.toArray⟩, .slice a1 l1.length k1, .slice b1 t1.length j1] 45)) := (Below.refl _ w).alloc (Nat.le_refl _) _
  have gb : Grows (w.alloc (.cells #[.int .u8 (n1 : Int), .int .i64 N1, .string ⟨s1.toArray⟩, .slice a1 l1.length k1, .slice b1 t1.length j1] 45)) ((w.alloc (.cells #[.int .u8 (n1 : Int), .int .i64 N1, .string ⟨s1.toArray⟩, .slice a1 l1.length k1, .slice b1 t1.length j1] 45)).alloc (.cells #[.int .u8 (n2 : Int), .int .i64 N2, .string ⟨s2.toArray⟩, .slice a2 l2.length k2, .slice b2 t2.length j2] 45)) := (Below.refl _ _).alloc (Nat.le_refl _) _
  have g0 : Grows w w1 := Grows.then (Grows.then ga gb) g1
  have hP : w1.heap[w.heap.size]? = some (.cells #[.int .u8 (n1 : Int), .int .i64 N1, .string ⟨s1.toArray⟩, .slice a1 l1.length k1, .slice b1 t1.length j1] 45 (0, 0)) := ((Grows.then gb g1).block _ (alloc_lt _ _)).trans (heap_alloc_new _ _)
  have hQ : w1.heap[w.heap.size + 1]? = some (.cells #[.int .u8 (n2 : Int), .int .i64 N2, .string ⟨s2.toArray⟩, .slice a2 l2.length k2, .slice b2 t2.length j2] 45 (0, 0)) := by
    have h := heap_alloc_new (w.alloc (.cells #[.int .u8 (n1 : Int), .int .i64 N1, .string ⟨s1.toArray⟩, .slice a1 l1.length k1, .slice b1 t1.length j1] 45)) (.cells #[.int .u8 (n2 : Int), .int .i64 N2, .string ⟨s2.toArray⟩, .slice a2 l2.length k2, .slice b2 t2.length j2] 45)
    have hsz : (w.alloc (.cells #[.int .u8 (n1 : Int), .int .i64 N1, .string ⟨s1.toArray⟩, .slice a1 l1.length k1, .slice b1 t1.length j1] 45)).heap.size = w.heap.size + 1 := Array.size_push _
    have h2 := g1.block (w.alloc (.cells #[.int .u8 (n1 : Int), .int .i64 N1, .string ⟨s1.toArray⟩, .slice a1 l1.length k1, .slice b1 t1.length j1] 45)).heap.size (alloc_lt _ _)
    rw [hsz] at h h2
    exact h2.trans h
  have hPl : w.heap.size < w1.heap.size := (Array.getElem?_eq_some_iff.1 hP).1
  have hQl : w.heap.size + 1 < w1.heap.size := (Array.getElem?_eq_some_iff.1 hQ).1
  have E1 := E.grows g0
  replace h31' := h31'.later g0
  replace h41 := h41.later g0
  replace h32' := h32'.later g0
  replace h42 := h42.later g0
  have hk : ∀ w', Grows w1 w' → w'.cell? ⟨w.heap.size, 0, none⟩ = some (.int .u8 (n1 : Int)) ∧ w'.cell? ⟨w.heap.size, 1, none⟩ = some (.int .i64 N1) ∧ w'.cell? ⟨w.heap.size, 2, none⟩ = some (.string ⟨s1.toArray⟩) ∧ w'.cell? ⟨w.heap.size, 3, none⟩ = some (.slice a1 l1.length k1) ∧ w'.cell? ⟨w.heap.size, 4, none⟩ = some (.slice b1 t1.length j1) ∧ w'.cell? ⟨w.heap.size + 1, 1, none⟩ = some (.int .i64 N2) ∧ w'.cell? ⟨w.heap.size + 1, 2, none⟩ = some (.string ⟨s2.toArray⟩) ∧ w'.cell? ⟨w.heap.size + 1, 3, none⟩ = some (.slice a2 l2.length k2) ∧ w'.cell? ⟨w.heap.size + 1, 4, none⟩ = some (.slice b2 t2.length j2) ∧ Grows w1 w' := by
    intro w' g
    have h := (g.block _ hPl).trans hP
    have h2 := (g.block _ hQl).trans hQ
    refine ⟨?_, ?_, ?_, ?_, ?_, ?_, ?_, ?_, ?_, g⟩ <;> first | (rw [cell_of_heap h]; rfl) | (rw [cell_of_heap h2]; rfl)
  clear g1 hP hQ E ga gb
  generalize w.heap.size = P at *
  replace hk := Lib.hid hk
  have q1 : (n1 : Int).tmod 4 = ((n1 % 4 : Nat) : Int) := rfl
  have hz4 : n1 % 4 < 4 := Nat.mod_lt _ (by omega)
  generalize n1 % 4 = z at *
  have hzi : (z : Int) < 4 := by omega
  have hz0 : (0 : Int) ≤ (z : Int) := by omega
  go_cut [6, 7] (fun s6 s7 wx => s6 = .string ⟨(encV z N1 S1 L1 (cutOf t1)).toArray⟩ ∧ s7 = .string ⟨(encV z N2 S2 L2 (cutOf t2)).toArray⟩ ∧ Grows w1 wx)
  case first =>
    have gd : Grows w1 w1.drew := (Below.refl _ _).drew
    refine wp_region_held_drew (S := (fun w' => w'.cell? ⟨P, 0, none⟩ = some (.int .u8 (n1 : Int)) ∧ w'.cell? ⟨P, 1, none⟩ = some (.int .i64 N1) ∧ w'.cell? ⟨P, 2, none⟩ = some (.string ⟨s1.toArray⟩) ∧ w'.cell? ⟨P, 3, none⟩ = some (.slice a1 l1.length k1) ∧ w'.cell? ⟨P, 4, none⟩ = some (.slice b1 t1.length j1) ∧ w'.cell? ⟨(P + 1), 1, none⟩ = some (.int .i64 N2) ∧ w'.cell? ⟨(P + 1), 2, none⟩ = some (.string ⟨s2.toArray⟩) ∧ w'.cell? ⟨(P + 1), 3, none⟩ = some (.slice a2 l2.length k2) ∧ w'.cell? ⟨(P + 1), 4, none⟩ = some (.slice b2 t2.length j2) ∧ Grows w1 w')) (by kernel_rfl) (hk.out _ gd) (fun hHeld => ?_)
    refine wpAnyH_listed #[false, false, false, false, false, false, false, false, false, false, false, false, false, false, false, false, false, false, false, false, false, false, false, false, false, false, false, false, false, false, false, false, false, false, false, false, false, false, false, false, false, false, false, false, false, false, false, false, false, false, false, false, false, false, false, false, false, false, false, false] (by kernel_rfl) ?_
    refine wpAnyT_begin [0, 1, 3, 4, 5, 6] (by kernel_rfl) (by kernel_rfl) ?_
    refine wpAnyT_take (oi := ⟨some 11, Op.fieldAddr 45 (Operand.tmp 2) 1, 0, _, _, none⟩) (v := .pointer (some ⟨P, 1, none⟩)) rfl (fun _ _ _ h => h) (by rfl) (by assumption) (fun wS hSw => ?_) ?_
    · (try dsimp only at hSw); go_simp
    dsimp only [Act.put, List.setIfInBounds_toArray, List.set_cons_zero, List.set_cons_succ]
    refine wpAnyT_take (oi := ⟨some 12, Op.load 3 (Operand.tmp 11), 3, _, _, none⟩) (v := .int .i64 N1) rfl (fun _ _ _ h => h) (by rfl) (by assumption) (fun wS hSw => ?_) ?_
    · (try dsimp only at hSw); go_simp
    dsimp only [Act.put, List.setIfInBounds_toArray, List.set_cons_zero, List.set_cons_succ]
    refine wpAnyT_take (oi := ⟨some 14, Op.fieldAddr 45 (Operand.tmp 2) 2, 0, _, _, none⟩) (v := .pointer (some ⟨P, 2, none⟩)) rfl (fun _ _ _ h => h) (by rfl) (by assumption) (fun wS hSw => ?_) ?_
    · (try dsimp only at hSw); go_simp
    dsimp only [Act.put, List.setIfInBounds_toArray, List.set_cons_zero, List.set_cons_succ]
    refine wpAnyT_take (oi := ⟨some 15, Op.load 9 (Operand.tmp 14), 9, _, _, none⟩) (v := .string ⟨s1.toArray⟩) rfl (fun _ _ _ h => h) (by rfl) (by assumption) (fun wS hSw => ?_) ?_
    · (try dsimp only at hSw); go_simp
    dsimp only [Act.put, List.setIfInBounds_toArray, List.set_cons_zero, List.set_cons_succ]
    refine wpAnyT_take (oi := ⟨some 16, Op.fieldAddr 45 (Operand.tmp 2) 2, 0, _, _, none⟩) (v := .pointer (some ⟨P, 2, none⟩)) rfl (fun _ _ _ h => h) (by rfl) (by assumption) (fun wS hSw => ?_) ?_
    · (try dsimp only at hSw); go_simp
    dsimp only [Act.put, List.setIfInBounds_toArray, List.set_cons_zero, List.set_cons_succ]
    refine wpAnyT_take (oi := ⟨some 17, Op.load 9 (Operand.tmp 16), 9, _, _, none⟩) (v := .string ⟨s1.toArray⟩) rfl (fun _ _ _ h => h) (by rfl) (by assumption) (fun wS hSw => ?_) ?_
    · (try dsimp only at hSw); go_simp
    dsimp only [Act.put, List.setIfInBounds_toArray, List.set_cons_zero, List.set_cons_succ]
    refine wpAnyT_end ?_
    refine wpAnyH_listed #[true, true, false, true, true, true, true, false, false, false, false, false, false, false, false, false, false, false, false, false, false, false, false, false, false, false, false, false, false, false, false, false, false, false, false, false, false, false, false, false, false, false, false, false, false, false, false, false, false, false, false, false, false, false, false, false, false, false, false, false] (by kernel_rfl) ?_
    refine wpAnyT_begin [7, 8, 9, 11, 12, 13] (by kernel_rfl) (by kernel_rfl) ?_
    refine wpAnyT_take (oi := ⟨some 18, Op.call { callee := Callee.builtin Builtin.len, args := #[Operand.tmp 17], argTypes := #[9] }, 3, _, _, none⟩) (v := .int .i64 s1.length) rfl (fun _ _ _ h => h) (by rfl) (by assumption) (fun wS hSw => ?_) ?_
    · (try dsimp only at hSw); go_simp
    dsimp only [Act.put, List.setIfInBounds_toArray, List.set_cons_zero, List.set_cons_succ]
    refine wpAnyT_take (oi := ⟨some 19, Op.call { callee := Callee.builtin Builtin.min, args := #[Operand.tmp 18, Operand.const (Value.int IntKind.i64 100)], argTypes := #[3, 3] }, 3, _, _, none⟩) (v := .int .i64 (min s1.length 100 : Nat)) rfl (fun _ _ _ h => h) (by rfl) (by assumption) (fun wS hSw => ?_) ?_
    · (try dsimp only at hSw); go_simp
    dsimp only [Act.put, List.setIfInBounds_toArray, List.set_cons_zero, List.set_cons_succ]
    refine wpAnyT_take (oi := ⟨some 20, Op.slice 9 (Operand.tmp 15) none (some (Operand.tmp 19)) none, 9, _, _, none⟩) (v := .string ⟨S1.toArray⟩) rfl (fun _ _ _ h => h) (by rfl) (by assumption) (fun wS hSw => ?_) ?_
    · (try dsimp only at hSw); go_simp
    dsimp only [Act.put, List.setIfInBounds_toArray, List.set_cons_zero, List.set_cons_succ]
    refine wpAnyT_take (oi := ⟨some 22, Op.fieldAddr 45 (Operand.tmp 2) 3, 0, _, _, none⟩) (v := .pointer (some ⟨P, 3, none⟩)) rfl (fun _ _ _ h => h) (by rfl) (by assumption) (fun wS hSw => ?_) ?_
    · (try dsimp only at hSw); go_simp
    dsimp only [Act.put, List.setIfInBounds_toArray, List.set_cons_zero, List.set_cons_succ]
    refine wpAnyT_take (oi := ⟨some 23, Op.load 22 (Operand.tmp 22), 22, _, _, none⟩) (v := .slice a1 l1.length k1) rfl (fun _ _ _ h => h) (by rfl) (by assumption) (fun wS hSw => ?_) ?_
    · (try dsimp only at hSw); go_simp
    dsimp only [Act.put, List.setIfInBounds_toArray, List.set_cons_zero, List.set_cons_succ]
    refine wpAnyT_take (oi := ⟨some 24, Op.fieldAddr 45 (Operand.tmp 2) 3, 0, _, _, none⟩) (v := .pointer (some ⟨P, 3, none⟩)) rfl (fun _ _ _ h => h) (by rfl) (by assumption) (fun wS hSw => ?_) ?_
    · (try dsimp only at hSw); go_simp
    dsimp only [Act.put, List.setIfInBounds_toArray, List.set_cons_zero, List.set_cons_succ]
    refine wpAnyT_end ?_
    refine wpAnyH_listed #[true, true, false, true, true, true, true, true, true, true, false, true, true, true, false, false, false, false, false, false, false, false, false, false, false, false, false, false, false, false, false, false, false, false, false, false, false, false, false, false, false, false, false, false, false, false, false, false, false, false, false, false, false, false, false, false, false, false, false, false] (by kernel_rfl) ?_
    refine wpAnyT_begin [14, 15, 16, 17, 19, 20] (by kernel_rfl) (by kernel_rfl) ?_
    refine wpAnyT_take (oi := ⟨some 25, Op.load 22 (Operand.tmp 24), 22, _, _, none⟩) (v := .slice a1 l1.length k1) rfl (fun _ _ _ h => h) (by rfl) (by assumption) (fun wS hSw => ?_) ?_
    · (try dsimp only at hSw); go_simp
    dsimp only [Act.put, List.setIfInBounds_toArray, List.set_cons_zero, List.set_cons_succ]
    refine wpAnyT_take (oi := ⟨some 26, Op.call { callee := Callee.builtin Builtin.len, args := #[Operand.tmp 25], argTypes := #[22] }, 3, _, _, none⟩) (v := .int .i64 l1.length) rfl (fun _ _ _ h => h) (by rfl) (by assumption) (fun wS hSw => ?_) ?_
    · (try dsimp only at hSw); go_simp
    dsimp only [Act.put, List.setIfInBounds_toArray, List.set_cons_zero, List.set_cons_succ]
    refine wpAnyT_take (oi := ⟨some 27, Op.call { callee := Callee.builtin Builtin.min, args := #[Operand.tmp 26, Operand.const (Value.int IntKind.i64 20)], argTypes := #[3, 3] }, 3, _, _, none⟩) (v := .int .i64 (L1.length : Nat)) rfl (fun _ _ _ h => h) (by rfl) (by assumption) (fun wS hSw => ?_) ?_
    · (try dsimp only at hSw); go_simp
    dsimp only [Act.put, List.setIfInBounds_toArray, List.set_cons_zero, List.set_cons_succ]
    refine wpAnyT_take (oi := ⟨some 28, Op.slice 22 (Operand.tmp 23) none (some (Operand.tmp 27)) none, 22, _, _, none⟩) (v := .slice a1 L1.length k1) rfl (fun _ _ _ h => h) (by rfl) (by assumption) (fun wS hSw => ?_) ?_
    · (try dsimp only at hSw); go_simp
    dsimp only [Act.put, List.setIfInBounds_toArray, List.set_cons_zero, List.set_cons_succ]
    refine wpAnyT_take (oi := ⟨some 30, Op.fieldAddr 45 (Operand.tmp 2) 4, 0, _, _, none⟩) (v := .pointer (some ⟨P, 4, none⟩)) rfl (fun _ _ _ h => h) (by rfl) (by assumption) (fun wS hSw => ?_) ?_
    · (try dsimp only at hSw); go_simp
    dsimp only [Act.put, List.setIfInBounds_toArray, List.set_cons_zero, List.set_cons_succ]
    refine wpAnyT_take (oi := ⟨some 31, Op.load 23 (Operand.tmp 30), 23, _, _, none⟩) (v := .slice b1 t1.length j1) rfl (fun _ _ _ h => h) (by rfl) (by assumption) (fun wS hSw => ?_) ?_
    · (try dsimp only at hSw); go_simp
    dsimp only [Act.put, List.setIfInBounds_toArray, List.set_cons_zero, List.set_cons_succ]
    refine wpAnyT_end ?_
    refine wpAnyH_listed #[true, true, false, true, true, true, true, true, true, true, false, true, true, true, true, true, true, true, false, true, true, false, false, false, false, false, false, false, false, false, false, false, false, false, false, false, false, false, false, false, false, false, false, false, false, false, false, false, false, false, false, false, false, false, false, false, false, false, false, false] (by kernel_rfl) ?_
    refine wpAnyT_begin [24, 25, 26, 29, 30, 32] (by kernel_rfl) (by kernel_rfl) ?_
    refine wpAnyT_take (oi := ⟨some 35, Op.fieldAddr 45 (Operand.tmp 2) 0, 0, _, _, none⟩) (v := .pointer (some ⟨P, 0, none⟩)) rfl (fun _ _ _ h => h) (by rfl) (by assumption) (fun wS hSw => ?_) ?_
    · (try dsimp only at hSw); go_simp
    dsimp only [Act.put, List.setIfInBounds_toArray, List.set_cons_zero, List.set_cons_succ]
    refine wpAnyT_take (oi := ⟨some 36, Op.load 5 (Operand.tmp 35), 5, _, _, none⟩) (v := .int .u8 (n1 : Int)) rfl (fun _ _ _ h => h) (by rfl) (by assumption) (fun wS hSw => ?_) ?_
    · (try dsimp only at hSw); go_simp
    dsimp only [Act.put, List.setIfInBounds_toArray, List.set_cons_zero, List.set_cons_succ]
    refine wpAnyT_take (oi := ⟨some 37, Op.binOp BinOp.rem 5 (Operand.tmp 36) (Operand.const (Value.int IntKind.u8 4)) 5, 5, _, _, none⟩) (v := .int .u8 (z : Int)) rfl (fun _ _ _ h => h) (by rfl) (by assumption) (fun wS hSw => ?_) ?_
    · (try dsimp only at hSw); go_simp
    dsimp only [Act.put, List.setIfInBounds_toArray, List.set_cons_zero, List.set_cons_succ]
    refine wpAnyT_take (oi := ⟨some 40, Op.fieldAddr 45 (Operand.tmp 3) 1, 0, _, _, none⟩) (v := .pointer (some ⟨P + 1, 1, none⟩)) rfl (fun _ _ _ h => h) (by rfl) (by assumption) (fun wS hSw => ?_) ?_
    · (try dsimp only at hSw); go_simp
    dsimp only [Act.put, List.setIfInBounds_toArray, List.set_cons_zero, List.set_cons_succ]
    refine wpAnyT_take (oi := ⟨some 41, Op.load 3 (Operand.tmp 40), 3, _, _, none⟩) (v := .int .i64 N2) rfl (fun _ _ _ h => h) (by rfl) (by assumption) (fun wS hSw => ?_) ?_
    · (try dsimp only at hSw); go_simp
    dsimp only [Act.put, List.setIfInBounds_toArray, List.set_cons_zero, List.set_cons_succ]
    refine wpAnyT_take (oi := ⟨some 43, Op.fieldAddr 45 (Operand.tmp 3) 2, 0, _, _, none⟩) (v := .pointer (some ⟨P + 1, 2, none⟩)) rfl (fun _ _ _ h => h) (by rfl) (by assumption) (fun wS hSw => ?_) ?_
    · (try dsimp only at hSw); go_simp
    dsimp only [Act.put, List.setIfInBounds_toArray, List.set_cons_zero, List.set_cons_succ]
    refine wpAnyT_end ?_
    refine wpAnyH_listed #[true, true, false, true, true, true, true, true, true, true, false, true, true, true, true, true, true, true, false, true, true, false, false, false, true, true, true, false, false, true, true, false, true, false, false, false, false, false, false, false, false, false, false, false, false, false, false, false, false, false, false, false, false, false, false, false, false, false, false, false] (by kernel_rfl) ?_
    refine wpAnyT_begin [33, 34, 35, 36, 37, 38] (by kernel_rfl) (by kernel_rfl) ?_
    refine wpAnyT_take (oi := ⟨some 44, Op.load 9 (Operand.tmp 43), 9, _, _, none⟩) (v := .string ⟨s2.toArray⟩) rfl (fun _ _ _ h => h) (by rfl) (by assumption) (fun wS hSw => ?_) ?_
    · (try dsimp only at hSw); go_simp
    dsimp only [Act.put, List.setIfInBounds_toArray, List.set_cons_zero, List.set_cons_succ]
    refine wpAnyT_take (oi := ⟨some 45, Op.fieldAddr 45 (Operand.tmp 3) 2, 0, _, _, none⟩) (v := .pointer (some ⟨P + 1, 2, none⟩)) rfl (fun _ _ _ h => h) (by rfl) (by assumption) (fun wS hSw => ?_) ?_
    · (try dsimp only at hSw); go_simp
    dsimp only [Act.put, List.setIfInBounds_toArray, List.set_cons_zero, List.set_cons_succ]
    refine wpAnyT_take (oi := ⟨some 46, Op.load 9 (Operand.tmp 45), 9, _, _, none⟩) (v := .string ⟨s2.toArray⟩) rfl (fun _ _ _ h => h) (by rfl) (by assumption) (fun wS hSw => ?_) ?_
    · (try dsimp only at hSw); go_simp
    dsimp only [Act.put, List.setIfInBounds_toArray, List.set_cons_zero, List.set_cons_succ]
    refine wpAnyT_take (oi := ⟨some 47, Op.call { callee := Callee.builtin Builtin.len, args := #[Operand.tmp 46], argTypes := #[9] }, 3, _, _, none⟩) (v := .int .i64 s2.length) rfl (fun _ _ _ h => h) (by rfl) (by assumption) (fun wS hSw => ?_) ?_
    · (try dsimp only at hSw); go_simp
    dsimp only [Act.put, List.setIfInBounds_toArray, List.set_cons_zero, List.set_cons_succ]
    refine wpAnyT_take (oi := ⟨some 48, Op.call { callee := Callee.builtin Builtin.min, args := #[Operand.tmp 47, Operand.const (Value.int IntKind.i64 100)], argTypes := #[3, 3] }, 3, _, _, none⟩) (v := .int .i64 (min s2.length 100 : Nat)) rfl (fun _ _ _ h => h) (by rfl) (by assumption) (fun wS hSw => ?_) ?_
    · (try dsimp only at hSw); go_simp
    dsimp only [Act.put, List.setIfInBounds_toArray, List.set_cons_zero, List.set_cons_succ]
    refine wpAnyT_take (oi := ⟨some 49, Op.slice 9 (Operand.tmp 44) none (some (Operand.tmp 48)) none, 9, _, _, none⟩) (v := .string ⟨S2.toArray⟩) rfl (fun _ _ _ h => h) (by rfl) (by assumption) (fun wS hSw => ?_) ?_
    · (try dsimp only at hSw); go_simp
    dsimp only [Act.put, List.setIfInBounds_toArray, List.set_cons_zero, List.set_cons_succ]
    refine wpAnyT_end ?_
    refine wpAnyH_listed #[true, true, false, true, true, true, true, true, true, true, false, true, true, true, true, true, true, true, false, true, true, false, false, false, true, true, true, false, false, true, true, false, true, true, true, true, true, true, true, false, false, false, false, false, false, false, false, false, false, false, false, false, false, false, false, false, false, false, false, false] (by kernel_rfl) ?_
    refine wpAnyT_begin [40, 41, 42, 43, 44, 45] (by kernel_rfl) (by kernel_rfl) ?_
    refine wpAnyT_take (oi := ⟨some 51, Op.fieldAddr 45 (Operand.tmp 3) 3, 0, _, _, none⟩) (v := .pointer (some ⟨P + 1, 3, none⟩)) rfl (fun _ _ _ h => h) (by rfl) (by assumption) (fun wS hSw => ?_) ?_
    · (try dsimp only at hSw); go_simp
    dsimp only [Act.put, List.setIfInBounds_toArray, List.set_cons_zero, List.set_cons_succ]
    refine wpAnyT_take (oi := ⟨some 52, Op.load 22 (Operand.tmp 51), 22, _, _, none⟩) (v := .slice a2 l2.length k2) rfl (fun _ _ _ h => h) (by rfl) (by assumption) (fun wS hSw => ?_) ?_
    · (try dsimp only at hSw); go_simp
    dsimp only [Act.put, List.setIfInBounds_toArray, List.set_cons_zero, List.set_cons_succ]
    refine wpAnyT_take (oi := ⟨some 53, Op.fieldAddr 45 (Operand.tmp 3) 3, 0, _, _, none⟩) (v := .pointer (some ⟨P + 1, 3, none⟩)) rfl (fun _ _ _ h => h) (by rfl) (by assumption) (fun wS hSw => ?_) ?_
    · (try dsimp only at hSw); go_simp
    dsimp only [Act.put, List.setIfInBounds_toArray, List.set_cons_zero, List.set_cons_succ]
    refine wpAnyT_take (oi := ⟨some 54, Op.load 22 (Operand.tmp 53), 22, _, _, none⟩) (v := .slice a2 l2.length k2) rfl (fun _ _ _ h => h) (by rfl) (by assumption) (fun wS hSw => ?_) ?_
    · (try dsimp only at hSw); go_simp
    dsimp only [Act.put, List.setIfInBounds_toArray, List.set_cons_zero, List.set_cons_succ]
    refine wpAnyT_take (oi := ⟨some 55, Op.call { callee := Callee.builtin Builtin.len, args := #[Operand.tmp 54], argTypes := #[22] }, 3, _, _, none⟩) (v := .int .i64 l2.length) rfl (fun _ _ _ h => h) (by rfl) (by assumption) (fun wS hSw => ?_) ?_
    · (try dsimp only at hSw); go_simp
    dsimp only [Act.put, List.setIfInBounds_toArray, List.set_cons_zero, List.set_cons_succ]
    refine wpAnyT_take (oi := ⟨some 56, Op.call { callee := Callee.builtin Builtin.min, args := #[Operand.tmp 55, Operand.const (Value.int IntKind.i64 20)], argTypes := #[3, 3] }, 3, _, _, none⟩) (v := .int .i64 (L2.length : Nat)) rfl (fun _ _ _ h => h) (by rfl) (by assumption) (fun wS hSw => ?_) ?_
    · (try dsimp only at hSw); go_simp
    dsimp only [Act.put, List.setIfInBounds_toArray, List.set_cons_zero, List.set_cons_succ]
    refine wpAnyT_end ?_
    refine wpAnyH_listed #[true, true, false, true, true, true, true, true, true, true, false, true, true, true, true, true, true, true, false, true, true, false, false, false, true, true, true, false, false, true, true, false, true, true, true, true, true, true, true, false, true, true, true, true, true, true, false, false, false, false, false, false, false, false, false, false, false, false, false, false] (by kernel_rfl) ?_
    refine wpAnyT_begin [46, 48, 49, 53, 54, 55] (by kernel_rfl) (by kernel_rfl) ?_
    refine wpAnyT_take (oi := ⟨some 57, Op.slice 22 (Operand.tmp 52) none (some (Operand.tmp 56)) none, 22, _, _, none⟩) (v := .slice a2 L2.length k2) rfl (fun _ _ _ h => h) (by rfl) (by assumption) (fun wS hSw => ?_) ?_
    · (try dsimp only at hSw); go_simp
    dsimp only [Act.put, List.setIfInBounds_toArray, List.set_cons_zero, List.set_cons_succ]
    refine wpAnyT_take (oi := ⟨some 59, Op.fieldAddr 45 (Operand.tmp 3) 4, 0, _, _, none⟩) (v := .pointer (some ⟨P + 1, 4, none⟩)) rfl (fun _ _ _ h => h) (by rfl) (by assumption) (fun wS hSw => ?_) ?_
    · (try dsimp only at hSw); go_simp
    dsimp only [Act.put, List.setIfInBounds_toArray, List.set_cons_zero, List.set_cons_succ]
    refine wpAnyT_take (oi := ⟨some 60, Op.load 23 (Operand.tmp 59), 23, _, _, none⟩) (v := .slice b2 t2.length j2) rfl (fun _ _ _ h => h) (by rfl) (by assumption) (fun wS hSw => ?_) ?_
    · (try dsimp only at hSw); go_simp
    dsimp only [Act.put, List.setIfInBounds_toArray, List.set_cons_zero, List.set_cons_succ]
    refine wpAnyT_take (oi := ⟨some 64, Op.fieldAddr 45 (Operand.tmp 2) 0, 0, _, _, none⟩) (v := .pointer (some ⟨P, 0, none⟩)) rfl (fun _ _ _ h => h) (by rfl) (by assumption) (fun wS hSw => ?_) ?_
    · (try dsimp only at hSw); go_simp
    dsimp only [Act.put, List.setIfInBounds_toArray, List.set_cons_zero, List.set_cons_succ]
    refine wpAnyT_take (oi := ⟨some 65, Op.load 5 (Operand.tmp 64), 5, _, _, none⟩) (v := .int .u8 (n1 : Int)) rfl (fun _ _ _ h => h) (by rfl) (by assumption) (fun wS hSw => ?_) ?_
    · (try dsimp only at hSw); go_simp
    dsimp only [Act.put, List.setIfInBounds_toArray, List.set_cons_zero, List.set_cons_succ]
    refine wpAnyT_take (oi := ⟨some 66, Op.binOp BinOp.rem 5 (Operand.tmp 65) (Operand.const (Value.int IntKind.u8 4)) 5, 5, _, _, none⟩) (v := .int .u8 (z : Int)) rfl (fun _ _ _ h => h) (by rfl) (by assumption) (fun wS hSw => ?_) ?_
    · (try dsimp only at hSw); go_simp
    dsimp only [Act.put, List.setIfInBounds_toArray, List.set_cons_zero, List.set_cons_succ]
    refine wpAnyT_end ?_
    refine wpAnyH_listed #[true, true, false, true, true, true, true, true, true, true, false, true, true, true, true, true, true, true, false, true, true, false, false, false, true, true, true, false, false, true, true, false, true, true, true, true, true, true, true, false, true, true, true, true, true, true, true, false, true, true, false, false, false, true, true, true, false, false, false, false] (by kernel_rfl) ?_
    clear hm1 hm2 hx1 hx2 hsz1 hsz2 hle1 hle2 hca1 hca2 hcb1 hcb2 hcc1 hcc2 hcd1 hcd2 hlf1 hlf2 hmm1 hmm2 hs1 hs2
    refine wpAnyH_ready (rs := [2]) (by kernel_rfl) (by simp) ?_
    refine AllReadyH.cons (o := ⟨some 13, Op.call { callee := Callee.value (Operand.func 12), args := #[Operand.tmp 12], argTypes := #[3] }, 9, _, _, none⟩) rfl (fun K hK => ?_) AllReadyH.nil
    go_simp
    go_at_call 12
    refine (int_any N1 _ hN1 (E1.grows gd)).mono ?_
    rintro e u1 ⟨rfl, hx⟩
    have g2 := Grows.then gd hx
    clear hx hHeld
    go_wp2_with fail
    refine hK.out _ _ (hk.out _ g2) (fun hHeld => ?_)
    clear hK K
    try dsimp only [Act.put, List.setIfInBounds_toArray, List.set_cons_zero, List.set_cons_succ]
    refine wpAnyH_listed #[true, true, true, true, true, true, true, true, true, true, false, true, true, true, true, true, true, true, false, true, true, false, false, false, true, true, true, false, false, true, true, false, true, true, true, true, true, true, true, false, true, true, true, true, true, true, true, false, true, true, false, false, false, true, true, true, false, false, false, false] (by kernel_rfl) ?_
    refine wpAnyH_ready (rs := [10]) (by kernel_rfl) (by simp) ?_
    refine AllReadyH.cons (o := ⟨some 21, Op.call { callee := Callee.value (Operand.func 14), args := #[Operand.tmp 20], argTypes := #[9] }, 9, _, _, none⟩) rfl (fun K hK => ?_) AllReadyH.nil
    go_simp
    go_at_call 14
    refine (text_any _ _ (by rw [h561]; omega) (E1.grows g2)).mono ?_
    rintro e u3 ⟨rfl, hx⟩
    have g4 := Grows.then g2 hx
    clear hx hHeld
    go_wp2_with fail
    refine hK.out _ _ (hk.out _ g4) (fun hHeld => ?_)
    clear hK K
    try dsimp only [Act.put, List.setIfInBounds_toArray, List.set_cons_zero, List.set_cons_succ]
    refine wpAnyH_listed #[true, true, true, true, true, true, true, true, true, true, true, true, true, true, true, true, true, true, false, true, true, false, false, false, true, true, true, false, false, true, true, false, true, true, true, true, true, true, true, false, true, true, true, true, true, true, true, false, true, true, false, false, false, true, true, true, false, false, false, false] (by kernel_rfl) ?_
    refine wpAnyH_ready (rs := [18]) (by kernel_rfl) (by simp) ?_
    refine AllReadyH.cons (o := ⟨some 29, Op.call { callee := Callee.value (Operand.func 16), args := #[Operand.tmp 28], argTypes := #[22] }, 9, _, _, none⟩) rfl (fun K hK => ?_) AllReadyH.nil
    go_simp
    go_at_call 16
    refine (wints_any _ L1 _ (h31'.later g4) HL1.out (by omega) (E1.grows g4)).mono ?_
    rintro e u5 ⟨rfl, hx⟩
    have g6 := Grows.then g4 hx
    clear hx hHeld
    go_wp2_with fail
    refine hK.out _ _ (hk.out _ g6) (fun hHeld => ?_)
    clear hK K
    try dsimp only [Act.put, List.setIfInBounds_toArray, List.set_cons_zero, List.set_cons_succ]
    refine wpAnyH_listed #[true, true, true, true, true, true, true, true, true, true, true, true, true, true, true, true, true, true, true, true, true, false, false, false, true, true, true, false, false, true, true, false, true, true, true, true, true, true, true, false, true, true, true, true, true, true, true, false, true, true, false, false, false, true, true, true, false, false, false, false] (by kernel_rfl) ?_
    refine wpAnyH_ready (rs := [21]) (by kernel_rfl) (by simp) ?_
    refine AllReadyH.cons (o := ⟨some 32, Op.call { callee := Callee.value (Operand.func 11), args := #[Operand.tmp 31], argTypes := #[23] }, 23, _, _, none⟩) rfl (fun K hK => ?_) AllReadyH.nil
    go_simp
    go_at_call 11
    refine (cut_any _ t1 _ (h41.later g6) HT1.out).mono ?_
    rintro e u7 ⟨vc, rfl, hrc, hx⟩
    have g8 := Grows.then g6 hx
    clear hx hHeld
    go_wp2_with fail
    refine hK.out _ _ (hk.out _ g8) (fun hHeld => ?_)
    clear hK K
    try dsimp only [Act.put, List.setIfInBounds_toArray, List.set_cons_zero, List.set_cons_succ]
    refine wpAnyH_listed #[true, true, true, true, true, true, true, true, true, true, true, true, true, true, true, true, true, true, true, true, true, true, false, false, true, true, true, false, false, true, true, false, true, true, true, true, true, true, true, false, true, true, true, true, true, true, true, false, true, true, false, false, false, true, true, true, false, false, false, false] (by kernel_rfl) ?_
    refine wpAnyH_ready (rs := [22]) (by kernel_rfl) (by simp) ?_
    refine AllReadyH.cons (o := ⟨some 33, Op.call { callee := Callee.value (Operand.func 18), args := #[Operand.tmp 32], argTypes := #[23] }, 9, _, _, none⟩) rfl (fun K hK => ?_) AllReadyH.nil
    go_simp
    go_at_call 18
    refine (wtexts_any _ (cutOf t1) _ hrc (by omega) (E1.grows g8)).mono ?_
    rintro e u9 ⟨rfl, hx⟩
    have g10 := Grows.then g8 hx
    clear hx hHeld
    go_wp2_with fail
    refine hK.out _ _ (hk.out _ g10) (fun hHeld => ?_)
    clear hK K
    try dsimp only [Act.put, List.setIfInBounds_toArray, List.set_cons_zero, List.set_cons_succ]
    refine wpAnyH_listed #[true, true, true, true, true, true, true, true, true, true, true, true, true, true, true, true, true, true, true, true, true, true, true, false, true, true, true, false, false, true, true, false, true, true, true, true, true, true, true, false, true, true, true, true, true, true, true, false, true, true, false, false, false, true, true, true, false, false, false, false] (by kernel_rfl) ?_
    clear hrc
    refine wpAnyH_ready (rs := [23, 31]) (by kernel_rfl) (by simp) ?_
    refine AllReadyH.cons (o := ⟨some 34, Op.buildSlice 23 4 #[(0, Operand.tmp 13), (1, Operand.tmp 21), (2, Operand.tmp 29), (3, Operand.tmp 33)], 23, _, _, none⟩) rfl (fun K hK => ?_) (AllReadyH.cons (o := ⟨some 42, Op.call { callee := Callee.value (Operand.func 12), args := #[Operand.tmp 41], argTypes := #[3] }, 9, _, _, none⟩) rfl (fun K hK => ?_) AllReadyH.nil)
    · go_simp
      have hb11 : Grows u9 (u9.alloc (.cells #[.string ⟨(encI N1).toArray⟩, .string ⟨(encT S1).toArray⟩, .string ⟨(encL encI L1).toArray⟩, .string ⟨(encL encT (cutOf t1)).toArray⟩] 9)) := (Below.refl _ _).alloc (Nat.le_refl _) _
      have g15 := Grows.then g10 hb11
      have hk13 : ∀ w', Grows (u9.alloc (.cells #[.string ⟨(encI N1).toArray⟩, .string ⟨(encT S1).toArray⟩, .string ⟨(encL encI L1).toArray⟩, .string ⟨(encL encT (cutOf t1)).toArray⟩] 9)) w' → w'.cell? ⟨u9.heap.size, z, none⟩ = some (.string ⟨(encV z N1 S1 L1 (cutOf t1)).toArray⟩) ∧ w'.cell? ⟨P, 0, none⟩ = some (.int .u8 (n1 : Int)) ∧ w'.cell? ⟨P, 1, none⟩ = some (.int .i64 N1) ∧ w'.cell? ⟨P, 2, none⟩ = some (.string ⟨s1.toArray⟩) ∧ w'.cell? ⟨P, 3, none⟩ = some (.slice a1 l1.length k1) ∧ w'.cell? ⟨P, 4, none⟩ = some (.slice b1 t1.length j1) ∧ w'.cell? ⟨(P + 1), 1, none⟩ = some (.int .i64 N2) ∧ w'.cell? ⟨(P + 1), 2, none⟩ = some (.string ⟨s2.toArray⟩) ∧ w'.cell? ⟨(P + 1), 3, none⟩ = some (.slice a2 l2.length k2) ∧ w'.cell? ⟨(P + 1), 4, none⟩ = some (.slice b2 t2.length j2) ∧ Grows w1 w' := fun w' q => ⟨(q.cell (alloc_lt _ _)).trans (kind_cell hz4 (heap_alloc_new _ _)), hk.out _ (Grows.then g15 q)⟩
      replace hk13 := Lib.hid hk13
      have m14 : Grows (u9.alloc (.cells #[.string ⟨(encI N1).toArray⟩, .string ⟨(encT S1).toArray⟩, .string ⟨(encL encI L1).toArray⟩, .string ⟨(encL encT (cutOf t1)).toArray⟩] 9)) (u9.alloc (.cells #[.string ⟨(encI N1).toArray⟩, .string ⟨(encT S1).toArray⟩, .string ⟨(encL encI L1).toArray⟩, .string ⟨(encL encT (cutOf t1)).toArray⟩] 9)) := Below.refl _ _
      clear hHeld
      refine hK.out _ _ (hk.out _ g15) (fun _ => ?_)
      clear hK K
      try dsimp only [Act.put, List.setIfInBounds_toArray, List.set_cons_zero, List.set_cons_succ]
      refine wpAnyH_listed #[true, true, true, true, true, true, true, true, true, true, true, true, true, true, true, true, true, true, true, true, true, true, true, true, true, true, true, false, false, true, true, false, true, true, true, true, true, true, true, false, true, true, true, true, true, true, true, false, true, true, false, false, false, true, true, true, false, false, false, false] (by kernel_rfl) ?_
      refine wpAnyH_more (S := fun w' => w'.cell? ⟨P, 0, none⟩ = some (.int .u8 (n1 : Int)) ∧ w'.cell? ⟨P, 1, none⟩ = some (.int .i64 N1) ∧ w'.cell? ⟨P, 2, none⟩ = some (.string ⟨s1.toArray⟩) ∧ w'.cell? ⟨P, 3, none⟩ = some (.slice a1 l1.length k1) ∧ w'.cell? ⟨P, 4, none⟩ = some (.slice b1 t1.length j1) ∧ w'.cell? ⟨(P + 1), 1, none⟩ = some (.int .i64 N2) ∧ w'.cell? ⟨(P + 1), 2, none⟩ = some (.string ⟨s2.toArray⟩) ∧ w'.cell? ⟨(P + 1), 3, none⟩ = some (.slice a2 l2.length k2) ∧ w'.cell? ⟨(P + 1), 4, none⟩ = some (.slice b2 t2.length j2) ∧ Grows w1 w') (T := fun w' => w'.cell? ⟨u9.heap.size, z, none⟩ = some (.string ⟨(encV z N1 S1 L1 (cutOf t1)).toArray⟩) ∧ w'.cell? ⟨P, 0, none⟩ = some (.int .u8 (n1 : Int)) ∧ w'.cell? ⟨P, 1, none⟩ = some (.int .i64 N1) ∧ w'.cell? ⟨P, 2, none⟩ = some (.string ⟨s1.toArray⟩) ∧ w'.cell? ⟨P, 3, none⟩ = some (.slice a1 l1.length k1) ∧ w'.cell? ⟨P, 4, none⟩ = some (.slice b1 t1.length j1) ∧ w'.cell? ⟨(P + 1), 1, none⟩ = some (.int .i64 N2) ∧ w'.cell? ⟨(P + 1), 2, none⟩ = some (.string ⟨s2.toArray⟩) ∧ w'.cell? ⟨(P + 1), 3, none⟩ = some (.slice a2 l2.length k2) ∧ w'.cell? ⟨(P + 1), 4, none⟩ = some (.slice b2 t2.length j2) ∧ Grows w1 w') (fun _ q => q.2) _ _ _ _ ?_
      have hHeld := hk13.out _ m14
      clear hb11
      generalize (u9.alloc (.cells #[.string ⟨(encI N1).toArray⟩, .string ⟨(encT S1).toArray⟩, .string ⟨(encL encI L1).toArray⟩, .string ⟨(encL encT (cutOf t1)).toArray⟩] 9)) = W16 at *
      refine wpAnyT_begin [27, 28] (by kernel_rfl) (by kernel_rfl) ?_
      refine wpAnyT_take (oi := ⟨some 38, Op.indexAddr 23 (Operand.tmp 34) (Operand.tmp 37), 0, _, _, none⟩) (v := .pointer (some ⟨u9.heap.size, z, none⟩)) rfl (fun _ _ _ h => h) (by rfl) (by assumption) (fun wS hSw => ?_) ?_
      · (try dsimp only at hSw); go_simp
      dsimp only [Act.put, List.setIfInBounds_toArray, List.set_cons_zero, List.set_cons_succ]
      refine wpAnyT_take (oi := ⟨some 39, Op.load 9 (Operand.tmp 38), 9, _, _, none⟩) (v := .string ⟨(encV z N1 S1 L1 (cutOf t1)).toArray⟩) rfl (fun _ _ _ h => h) (by rfl) (by assumption) (fun wS hSw => ?_) ?_
      · (try dsimp only at hSw); go_simp
      dsimp only [Act.put, List.setIfInBounds_toArray, List.set_cons_zero, List.set_cons_succ]
      refine wpAnyT_end ?_
      refine wpAnyH_listed #[true, true, true, true, true, true, true, true, true, true, true, true, true, true, true, true, true, true, true, true, true, true, true, true, true, true, true, true, true, true, true, false, true, true, true, true, true, true, true, false, true, true, true, true, true, true, true, false, true, true, false, false, false, true, true, true, false, false, false, false] (by kernel_rfl) ?_
      refine wpAnyH_ready (rs := [31]) (by kernel_rfl) (by simp) ?_
      refine AllReadyH.cons (o := ⟨some 42, Op.call { callee := Callee.value (Operand.func 12), args := #[Operand.tmp 41], argTypes := #[3] }, 9, _, _, none⟩) rfl (fun K hK => ?_) AllReadyH.nil
      go_simp
      go_at_call 12
      refine (int_any N2 _ hN2 (E1.grows g15)).mono ?_
      rintro e u17 ⟨rfl, hx⟩
      have g18 := Grows.then g15 hx
      have m19 := Grows.then m14 hx
      clear hx hHeld
      go_wp2_with fail
      refine hK.out _ _ (hk13.out _ m19) (fun hHeld => ?_)
      clear hK K
      try dsimp only [Act.put, List.setIfInBounds_toArray, List.set_cons_zero, List.set_cons_succ]
      refine wpAnyH_listed #[true, true, true, true, true, true, true, true, true, true, true, true, true, true, true, true, true, true, true, true, true, true, true, true, true, true, true, true, true, true, true, true, true, true, true, true, true, true, true, false, true, true, true, true, true, true, true, false, true, true, false, false, false, true, true, true, false, false, false, false] (by kernel_rfl) ?_
      refine wpAnyH_ready (rs := [39]) (by kernel_rfl) (by simp) ?_
      refine AllReadyH.cons (o := ⟨some 50, Op.call { callee := Callee.value (Operand.func 14), args := #[Operand.tmp 49], argTypes := #[9] }, 9, _, _, none⟩) rfl (fun K hK => ?_) AllReadyH.nil
      go_simp
      go_at_call 14
      refine (text_any _ _ (by rw [h562]; omega) (E1.grows g18)).mono ?_
      rintro e u20 ⟨rfl, hx⟩
      have g21 := Grows.then g18 hx
      have m22 := Grows.then m19 hx
      clear hx hHeld
      go_wp2_with fail
      refine hK.out _ _ (hk13.out _ m22) (fun hHeld => ?_)
      clear hK K
      try dsimp only [Act.put, List.setIfInBounds_toArray, List.set_cons_zero, List.set_cons_succ]
      refine wpAnyH_listed #[true, true, true, true, true, true, true, true, true, true, true, true, true, true, true, true, true, true, true, true, true, true, true, true, true, true, true, true, true, true, true, true, true, true, true, true, true, true, true, true, true, true, true, true, true, true, true, false, true, true, false, false, false, true, true, true, false, false, false, false] (by kernel_rfl) ?_
      refine wpAnyH_ready (rs := [47]) (by kernel_rfl) (by simp) ?_
      refine AllReadyH.cons (o := ⟨some 58, Op.call { callee := Callee.value (Operand.func 16), args := #[Operand.tmp 57], argTypes := #[22] }, 9, _, _, none⟩) rfl (fun K hK => ?_) AllReadyH.nil
      go_simp
      go_at_call 16
      refine (wints_any _ L2 _ (h32'.later g21) HL2.out (by omega) (E1.grows g21)).mono ?_
      rintro e u23 ⟨rfl, hx⟩
      have g24 := Grows.then g21 hx
      have m25 := Grows.then m22 hx
      clear hx hHeld
      go_wp2_with fail
      refine hK.out _ _ (hk13.out _ m25) (fun hHeld => ?_)
      clear hK K
      try dsimp only [Act.put, List.setIfInBounds_toArray, List.set_cons_zero, List.set_cons_succ]
      refine wpAnyH_listed #[true, true, true, true, true, true, true, true, true, true, true, true, true, true, true, true, true, true, true, true, true, true, true, true, true, true, true, true, true, true, true, true, true, true, true, true, true, true, true, true, true, true, true, true, true, true, true, true, true, true, false, false, false, true, true, true, false, false, false, false] (by kernel_rfl) ?_
      refine wpAnyH_ready (rs := [50]) (by kernel_rfl) (by simp) ?_
      refine AllReadyH.cons (o := ⟨some 61, Op.call { callee := Callee.value (Operand.func 11), args := #[Operand.tmp 60], argTypes := #[23] }, 23, _, _, none⟩) rfl (fun K hK => ?_) AllReadyH.nil
      go_simp
      go_at_call 11
      refine (cut_any _ t2 _ (h42.later g24) HT2.out).mono ?_
      rintro e u26 ⟨vc, rfl, hrc, hx⟩
      have g27 := Grows.then g24 hx
      have m28 := Grows.then m25 hx
      clear hx hHeld
      go_wp2_with fail
      refine hK.out _ _ (hk13.out _ m28) (fun hHeld => ?_)
      clear hK K
      try dsimp only [Act.put, List.setIfInBounds_toArray, List.set_cons_zero, List.set_cons_succ]
      refine wpAnyH_listed #[true, true, true, true, true, true, true, true, true, true, true, true, true, true, true, true, true, true, true, true, true, true, true, true, true, true, true, true, true, true, true, true, true, true, true, true, true, true, true, true, true, true, true, true, true, true, true, true, true, true, true, false, false, true, true, true, false, false, false, false] (by kernel_rfl) ?_
      refine wpAnyH_ready (rs := [51]) (by kernel_rfl) (by simp) ?_
      refine AllReadyH.cons (o := ⟨some 62, Op.call { callee := Callee.value (Operand.func 18), args := #[Operand.tmp 61], argTypes := #[23] }, 9, _, _, none⟩) rfl (fun K hK => ?_) AllReadyH.nil
      go_simp
      go_at_call 18
      refine (wtexts_any _ (cutOf t2) _ hrc (by omega) (E1.grows g27)).mono ?_
      rintro e u29 ⟨rfl, hx⟩
      have g30 := Grows.then g27 hx
      have m31 := Grows.then m28 hx
      clear hx hHeld
      go_wp2_with fail
      refine hK.out _ _ (hk13.out _ m31) (fun hHeld => ?_)
      clear hK K
      try dsimp only [Act.put, List.setIfInBounds_toArray, List.set_cons_zero, List.set_cons_succ]
      refine wpAnyH_listed #[true, true, true, true, true, true, true, true, true, true, true, true, true, true, true, true, true, true, true, true, true, true, true, true, true, true, true, true, true, true, true, true, true, true, true, true, true, true, true, true, true, true, true, true, true, true, true, true, true, true, true, true, false, true, true, true, false, false, false, false] (by kernel_rfl) ?_
      refine wpAnyT_begin [58] (by kernel_rfl) (by kernel_rfl) ?_
      refine wpAnyT_take (oi := ⟨some 6, Op.assign (Operand.tmp 39), 9, _, _, none⟩) (v := .string ⟨(encV z N1 S1 L1 (cutOf t1)).toArray⟩) rfl (fun _ _ _ h => h) (by rfl) (by assumption) (fun wS hSw => ?_) ?_
      · (try dsimp only at hSw); go_simp
      dsimp only [Act.put, List.setIfInBounds_toArray, List.set_cons_zero, List.set_cons_succ]
      refine wpAnyT_end ?_
      refine wpAnyH_listed #[true, true, true, true, true, true, true, true, true, true, true, true, true, true, true, true, true, true, true, true, true, true, true, true, true, true, true, true, true, true, true, true, true, true, true, true, true, true, true, true, true, true, true, true, true, true, true, true, true, true, true, true, false, true, true, true, false, false, true, false] (by kernel_rfl) ?_
      refine wpAnyH_ready (rs := [52]) (by kernel_rfl) (by simp) ?_
      refine AllReadyH.cons (o := ⟨some 63, Op.buildSlice 23 4 #[(0, Operand.tmp 42), (1, Operand.tmp 50), (2, Operand.tmp 58), (3, Operand.tmp 62)], 23, _, _, none⟩) rfl (fun K hK => ?_) AllReadyH.nil
      go_simp
      have hb32 : Grows u29 (u29.alloc (.cells #[.string ⟨(encI N2).toArray⟩, .string ⟨(encT S2).toArray⟩, .string ⟨(encL encI L2).toArray⟩, .string ⟨(encL encT (cutOf t2)).toArray⟩] 9)) := (Below.refl _ _).alloc (Nat.le_refl _) _
      have g36 := Grows.then g30 hb32
      have m37 := Grows.then m31 hb32
      have hk34 : ∀ w', Grows (u29.alloc (.cells #[.string ⟨(encI N2).toArray⟩, .string ⟨(encT S2).toArray⟩, .string ⟨(encL encI L2).toArray⟩, .string ⟨(encL encT (cutOf t2)).toArray⟩] 9)) w' → w'.cell? ⟨u29.heap.size, z, none⟩ = some (.string ⟨(encV z N2 S2 L2 (cutOf t2)).toArray⟩) ∧ w'.cell? ⟨u9.heap.size, z, none⟩ = some (.string ⟨(encV z N1 S1 L1 (cutOf t1)).toArray⟩) ∧ w'.cell? ⟨P, 0, none⟩ = some (.int .u8 (n1 : Int)) ∧ w'.cell? ⟨P, 1, none⟩ = some (.int .i64 N1) ∧ w'.cell? ⟨P, 2, none⟩ = some (.string ⟨s1.toArray⟩) ∧ w'.cell? ⟨P, 3, none⟩ = some (.slice a1 l1.length k1) ∧ w'.cell? ⟨P, 4, none⟩ = some (.slice b1 t1.length j1) ∧ w'.cell? ⟨(P + 1), 1, none⟩ = some (.int .i64 N2) ∧ w'.cell? ⟨(P + 1), 2, none⟩ = some (.string ⟨s2.toArray⟩) ∧ w'.cell? ⟨(P + 1), 3, none⟩ = some (.slice a2 l2.length k2) ∧ w'.cell? ⟨(P + 1), 4, none⟩ = some (.slice b2 t2.length j2) ∧ Grows w1 w' := fun w' q => ⟨(q.cell (alloc_lt _ _)).trans (kind_cell hz4 (heap_alloc_new _ _)), hk13.out _ (Grows.then m37 q)⟩
      replace hk34 := Lib.hid hk34
      have m35 : Grows (u29.alloc (.cells #[.string ⟨(encI N2).toArray⟩, .string ⟨(encT S2).toArray⟩, .string ⟨(encL encI L2).toArray⟩, .string ⟨(encL encT (cutOf t2)).toArray⟩] 9)) (u29.alloc (.cells #[.string ⟨(encI N2).toArray⟩, .string ⟨(encT S2).toArray⟩, .string ⟨(encL encI L2).toArray⟩, .string ⟨(encL encT (cutOf t2)).toArray⟩] 9)) := Below.refl _ _
      clear hHeld
      refine hK.out _ _ (hk13.out _ m37) (fun _ => ?_)
      clear hK K
      try dsimp only [Act.put, List.setIfInBounds_toArray, List.set_cons_zero, List.set_cons_succ]
      refine wpAnyH_listed #[true, true, true, true, true, true, true, true, true, true, true, true, true, true, true, true, true, true, true, true, true, true, true, true, true, true, true, true, true, true, true, true, true, true, true, true, true, true, true, true, true, true, true, true, true, true, true, true, true, true, true, true, true, true, true, true, false, false, true, false] (by kernel_rfl) ?_
      refine wpAnyH_more (S := fun w' => w'.cell? ⟨u9.heap.size, z, none⟩ = some (.string ⟨(encV z N1 S1 L1 (cutOf t1)).toArray⟩) ∧ w'.cell? ⟨P, 0, none⟩ = some (.int .u8 (n1 : Int)) ∧ w'.cell? ⟨P, 1, none⟩ = some (.int .i64 N1) ∧ w'.cell? ⟨P, 2, none⟩ = some (.string ⟨s1.toArray⟩) ∧ w'.cell? ⟨P, 3, none⟩ = some (.slice a1 l1.length k1) ∧ w'.cell? ⟨P, 4, none⟩ = some (.slice b1 t1.length j1) ∧ w'.cell? ⟨(P + 1), 1, none⟩ = some (.int .i64 N2) ∧ w'.cell? ⟨(P + 1), 2, none⟩ = some (.string ⟨s2.toArray⟩) ∧ w'.cell? ⟨(P + 1), 3, none⟩ = some (.slice a2 l2.length k2) ∧ w'.cell? ⟨(P + 1), 4, none⟩ = some (.slice b2 t2.length j2) ∧ Grows w1 w') (T := fun w' => w'.cell? ⟨u29.heap.size, z, none⟩ = some (.string ⟨(encV z N2 S2 L2 (cutOf t2)).toArray⟩) ∧ w'.cell? ⟨u9.heap.size, z, none⟩ = some (.string ⟨(encV z N1 S1 L1 (cutOf t1)).toArray⟩) ∧ w'.cell? ⟨P, 0, none⟩ = some (.int .u8 (n1 : Int)) ∧ w'.cell? ⟨P, 1, none⟩ = some (.int .i64 N1) ∧ w'.cell? ⟨P, 2, none⟩ = some (.string ⟨s1.toArray⟩) ∧ w'.cell? ⟨P, 3, none⟩ = some (.slice a1 l1.length k1) ∧ w'.cell? ⟨P, 4, none⟩ = some (.slice b1 t1.length j1) ∧ w'.cell? ⟨(P + 1), 1, none⟩ = some (.int .i64 N2) ∧ w'.cell? ⟨(P + 1), 2, none⟩ = some (.string ⟨s2.toArray⟩) ∧ w'.cell? ⟨(P + 1), 3, none⟩ = some (.slice a2 l2.length k2) ∧ w'.cell? ⟨(P + 1), 4, none⟩ = some (.slice b2 t2.length j2) ∧ Grows w1 w') (fun _ q => q.2) _ _ _ _ ?_
      have hHeld := hk34.out _ m35
      clear hb32
      generalize (u29.alloc (.cells #[.string ⟨(encI N2).toArray⟩, .string ⟨(encT S2).toArray⟩, .string ⟨(encL encI L2).toArray⟩, .string ⟨(encL encT (cutOf t2)).toArray⟩] 9)) = W38 at *
      refine wpAnyT_begin [56, 57] (by kernel_rfl) (by kernel_rfl) ?_
      refine wpAnyT_take (oi := ⟨some 67, Op.indexAddr 23 (Operand.tmp 63) (Operand.tmp 66), 0, _, _, none⟩) (v := .pointer (some ⟨u29.heap.size, z, none⟩)) rfl (fun _ _ _ h => h) (by rfl) (by assumption) (fun wS hSw => ?_) ?_
      · (try dsimp only at hSw); go_simp
      dsimp only [Act.put, List.setIfInBounds_toArray, List.set_cons_zero, List.set_cons_succ]
      refine wpAnyT_take (oi := ⟨some 68, Op.load 9 (Operand.tmp 67), 9, _, _, none⟩) (v := .string ⟨(encV z N2 S2 L2 (cutOf t2)).toArray⟩) rfl (fun _ _ _ h => h) (by rfl) (by assumption) (fun wS hSw => ?_) ?_
      · (try dsimp only at hSw); go_simp
      dsimp only [Act.put, List.setIfInBounds_toArray, List.set_cons_zero, List.set_cons_succ]
      refine wpAnyT_end ?_
      refine wpAnyH_listed #[true, true, true, true, true, true, true, true, true, true, true, true, true, true, true, true, true, true, true, true, true, true, true, true, true, true, true, true, true, true, true, true, true, true, true, true, true, true, true, true, true, true, true, true, true, true, true, true, true, true, true, true, true, true, true, true, true, true, true, false] (by kernel_rfl) ?_
      refine wpAnyT_begin [59] (by kernel_rfl) (by kernel_rfl) ?_
      refine wpAnyT_take (oi := ⟨some 7, Op.assign (Operand.tmp 68), 9, _, _, none⟩) (v := .string ⟨(encV z N2 S2 L2 (cutOf t2)).toArray⟩) rfl (fun _ _ _ h => h) (by rfl) (by assumption) (fun wS hSw => ?_) ?_
      · (try dsimp only at hSw); go_simp
      dsimp only [Act.put, List.setIfInBounds_toArray, List.set_cons_zero, List.set_cons_succ]
      refine wpAnyT_end ?_
      refine wpAnyH_listed #[true, true, true, true, true, true, true, true, true, true, true, true, true, true, true, true, true, true, true, true, true, true, true, true, true, true, true, true, true, true, true, true, true, true, true, true, true, true, true, true, true, true, true, true, true, true, true, true, true, true, true, true, true, true, true, true, true, true, true, true] (by kernel_rfl) ?_
      refine wpAnyH_done (by kernel_rfl) ?_ _
      go_wp2_with fail
      try dsimp only [Act.put, List.setIfInBounds_toArray, List.set_cons_zero, List.set_cons_succ]
      go_meet
      exact ⟨rfl, rfl, g36⟩
    · go_simp
      go_at_call 12
      refine (int_any N2 _ hN2 (E1.grows g10)).mono ?_
      rintro e u39 ⟨rfl, hx⟩
      have g40 := Grows.then g10 hx
      clear hx hHeld
      go_wp2_with fail
      refine hK.out _ _ (hk.out _ g40) (fun hHeld => ?_)
      clear hK K
      try dsimp only [Act.put, List.setIfInBounds_toArray, List.set_cons_zero, List.set_cons_succ]
      refine wpAnyH_listed #[true, true, true, true, true, true, true, true, true, true, true, true, true, true, true, true, true, true, true, true, true, true, true, false, true, true, true, false, false, true, true, true, true, true, true, true, true, true, true, false, true, true, true, true, true, true, true, false, true, true, false, false, false, true, true, true, false, false, false, false] (by kernel_rfl) ?_
      refine wpAnyH_ready (rs := [23, 39]) (by kernel_rfl) (by simp) ?_
      refine AllReadyH.cons (o := ⟨some 34, Op.buildSlice 23 4 #[(0, Operand.tmp 13), (1, Operand.tmp 21), (2, Operand.tmp 29), (3, Operand.tmp 33)], 23, _, _, none⟩) rfl (fun K hK => ?_) (AllReadyH.cons (o := ⟨some 50, Op.call { callee := Callee.value (Operand.func 14), args := #[Operand.tmp 49], argTypes := #[9] }, 9, _, _, none⟩) rfl (fun K hK => ?_) AllReadyH.nil)
      · go_simp
        have hb41 : Grows u39 (u39.alloc (.cells #[.string ⟨(encI N1).toArray⟩, .string ⟨(encT S1).toArray⟩, .string ⟨(encL encI L1).toArray⟩, .string ⟨(encL encT (cutOf t1)).toArray⟩] 9)) := (Below.refl _ _).alloc (Nat.le_refl _) _
        have g45 := Grows.then g40 hb41
        have hk43 : ∀ w', Grows (u39.alloc (.cells #[.string ⟨(encI N1).toArray⟩, .string ⟨(encT S1).toArray⟩, .string ⟨(encL encI L1).toArray⟩, .string ⟨(encL encT (cutOf t1)).toArray⟩] 9)) w' → w'.cell? ⟨u39.heap.size, z, none⟩ = some (.string ⟨(encV z N1 S1 L1 (cutOf t1)).toArray⟩) ∧ w'.cell? ⟨P, 0, none⟩ = some (.int .u8 (n1 : Int)) ∧ w'.cell? ⟨P, 1, none⟩ = some (.int .i64 N1) ∧ w'.cell? ⟨P, 2, none⟩ = some (.string ⟨s1.toArray⟩) ∧ w'.cell? ⟨P, 3, none⟩ = some (.slice a1 l1.length k1) ∧ w'.cell? ⟨P, 4, none⟩ = some (.slice b1 t1.length j1) ∧ w'.cell? ⟨(P + 1), 1, none⟩ = some (.int .i64 N2) ∧ w'.cell? ⟨(P + 1), 2, none⟩ = some (.string ⟨s2.toArray⟩) ∧ w'.cell? ⟨(P + 1), 3, none⟩ = some (.slice a2 l2.length k2) ∧ w'.cell? ⟨(P + 1), 4, none⟩ = some (.slice b2 t2.length j2) ∧ Grows w1 w' := fun w' q => ⟨(q.cell (alloc_lt _ _)).trans (kind_cell hz4 (heap_alloc_new _ _)), hk.out _ (Grows.then g45 q)⟩
        replace hk43 := Lib.hid hk43
        have m44 : Grows (u39.alloc (.cells #[.string ⟨(encI N1).toArray⟩, .string ⟨(encT S1).toArray⟩, .string ⟨(encL encI L1).toArray⟩, .string ⟨(encL encT (cutOf t1)).toArray⟩] 9)) (u39.alloc (.cells #[.string ⟨(encI N1).toArray⟩, .string ⟨(encT S1).toArray⟩, .string ⟨(encL encI L1).toArray⟩, .string ⟨(encL encT (cutOf t1)).toArray⟩] 9)) := Below.refl _ _
        clear hHeld
        refine hK.out _ _ (hk.out _ g45) (fun _ => ?_)
        clear hK K
        try dsimp only [Act.put, List.setIfInBounds_toArray, List.set_cons_zero, List.set_cons_succ]
        refine wpAnyH_listed #[true, true, true, true, true, true, true, true, true, true, true, true, true, true, true, true, true, true, true, true, true, true, true, true, true, true, true, false, false, true, true, true, true, true, true, true, true, true, true, false, true, true, true, true, true, true, true, false, true, true, false, false, false, true, true, true, false, false, false, false] (by kernel_rfl) ?_
        refine wpAnyH_more (S := fun w' => w'.cell? ⟨P, 0, none⟩ = some (.int .u8 (n1 : Int)) ∧ w'.cell? ⟨P, 1, none⟩ = some (.int .i64 N1) ∧ w'.cell? ⟨P, 2, none⟩ = some (.string ⟨s1.toArray⟩) ∧ w'.cell? ⟨P, 3, none⟩ = some (.slice a1 l1.length k1) ∧ w'.cell? ⟨P, 4, none⟩ = some (.slice b1 t1.length j1) ∧ w'.cell? ⟨(P + 1), 1, none⟩ = some (.int .i64 N2) ∧ w'.cell? ⟨(P + 1), 2, none⟩ = some (.string ⟨s2.toArray⟩) ∧ w'.cell? ⟨(P + 1), 3, none⟩ = some (.slice a2 l2.length k2) ∧ w'.cell? ⟨(P + 1), 4, none⟩ = some (.slice b2 t2.length j2) ∧ Grows w1 w') (T := fun w' => w'.cell? ⟨u39.heap.size, z, none⟩ = some (.string ⟨(encV z N1 S1 L1 (cutOf t1)).toArray⟩) ∧ w'.cell? ⟨P, 0, none⟩ = some (.int .u8 (n1 : Int)) ∧ w'.cell? ⟨P, 1, none⟩ = some (.int .i64 N1) ∧ w'.cell? ⟨P, 2, none⟩ = some (.string ⟨s1.toArray⟩) ∧ w'.cell? ⟨P, 3, none⟩ = some (.slice a1 l1.length k1) ∧ w'.cell? ⟨P, 4, none⟩ = some (.slice b1 t1.length j1) ∧ w'.cell? ⟨(P + 1), 1, none⟩ = some (.int .i64 N2) ∧ w'.cell? ⟨(P + 1), 2, none⟩ = some (.string ⟨s2.toArray⟩) ∧ w'.cell? ⟨(P + 1), 3, none⟩ = some (.slice a2 l2.length k2) ∧ w'.cell? ⟨(P + 1), 4, none⟩ = some (.slice b2 t2.length j2) ∧ Grows w1 w') (fun _ q => q.2) _ _ _ _ ?_
        have hHeld := hk43.out _ m44
        clear hb41
        generalize (u39.alloc (.cells #[.string ⟨(encI N1).toArray⟩, .string ⟨(encT S1).toArray⟩, .string ⟨(encL encI L1).toArray⟩, .string ⟨(encL encT (cutOf t1)).toArray⟩] 9)) = W46 at *
        refine wpAnyT_begin [27, 28] (by kernel_rfl) (by kernel_rfl) ?_
        refine wpAnyT_take (oi := ⟨some 38, Op.indexAddr 23 (Operand.tmp 34) (Operand.tmp 37), 0, _, _, none⟩) (v := .pointer (some ⟨u39.heap.size, z, none⟩)) rfl (fun _ _ _ h => h) (by rfl) (by assumption) (fun wS hSw => ?_) ?_
        · (try dsimp only at hSw); go_simp
        dsimp only [Act.put, List.setIfInBounds_toArray, List.set_cons_zero, List.set_cons_succ]
        refine wpAnyT_take (oi := ⟨some 39, Op.load 9 (Operand.tmp 38), 9, _, _, none⟩) (v := .string ⟨(encV z N1 S1 L1 (cutOf t1)).toArray⟩) rfl (fun _ _ _ h => h) (by rfl) (by assumption) (fun wS hSw => ?_) ?_
        · (try dsimp only at hSw); go_simp
        dsimp only [Act.put, List.setIfInBounds_toArray, List.set_cons_zero, List.set_cons_succ]
        refine wpAnyT_end ?_
        refine wpAnyH_listed #[true, true, true, true, true, true, true, true, true, true, true, true, true, true, true, true, true, true, true, true, true, true, true, true, true, true, true, true, true, true, true, true, true, true, true, true, true, true, true, false, true, true, true, true, true, true, true, false, true, true, false, false, false, true, true, true, false, false, false, false] (by kernel_rfl) ?_
        refine wpAnyH_ready (rs := [39]) (by kernel_rfl) (by simp) ?_
        refine AllReadyH.cons (o := ⟨some 50, Op.call { callee := Callee.value (Operand.func 14), args := #[Operand.tmp 49], argTypes := #[9] }, 9, _, _, none⟩) rfl (fun K hK => ?_) AllReadyH.nil
        go_simp
        go_at_call 14
        refine (text_any _ _ (by rw [h562]; omega) (E1.grows g45)).mono ?_
        rintro e u47 ⟨rfl, hx⟩
        have g48 := Grows.then g45 hx
        have m49 := Grows.then m44 hx
        clear hx hHeld
        go_wp2_with fail
        refine hK.out _ _ (hk43.out _ m49) (fun hHeld => ?_)
        clear hK K
        try dsimp only [Act.put, List.setIfInBounds_toArray, List.set_cons_zero, List.set_cons_succ]
        refine wpAnyH_listed #[true, true, true, true, true, true, true, true, true, true, true, true, true, true, true, true, true, true, true, true, true, true, true, true, true, true, true, true, true, true, true, true, true, true, true, true, true, true, true, true, true, true, true, true, true, true, true, false, true, true, false, false, false, true, true, true, false, false, false, false] (by kernel_rfl) ?_
        refine wpAnyH_ready (rs := [47]) (by kernel_rfl) (by simp) ?_
        refine AllReadyH.cons (o := ⟨some 58, Op.call { callee := Callee.value (Operand.func 16), args := #[Operand.tmp 57], argTypes := #[22] }, 9, _, _, none⟩) rfl (fun K hK => ?_) AllReadyH.nil
        go_simp
        go_at_call 16
        refine (wints_any _ L2 _ (h32'.later g48) HL2.out (by omega) (E1.grows g48)).mono ?_
        rintro e u50 ⟨rfl, hx⟩
        have g51 := Grows.then g48 hx
        have m52 := Grows.then m49 hx
        clear hx hHeld
        go_wp2_with fail
        refine hK.out _ _ (hk43.out _ m52) (fun hHeld => ?_)
        clear hK K
        try dsimp only [Act.put, List.setIfInBounds_toArray, List.set_cons_zero, List.set_cons_succ]
        refine wpAnyH_listed #[true, true, true, true, true, true, true, true, true, true, true, true, true, true, true, true, true, true, true, true, true, true, true, true, true, true, true, true, true, true, true, true, true, true, true, true, true, true, true, true, true, true, true, true, true, true, true, true, true, true, false, false, false, true, true, true, false, false, false, false] (by kernel_rfl) ?_
        refine wpAnyH_ready (rs := [50]) (by kernel_rfl) (by simp) ?_
        refine AllReadyH.cons (o := ⟨some 61, Op.call { callee := Callee.value (Operand.func 11), args := #[Operand.tmp 60], argTypes := #[23] }, 23, _, _, none⟩) rfl (fun K hK => ?_) AllReadyH.nil
        go_simp
        go_at_call 11
        refine (cut_any _ t2 _ (h42.later g51) HT2.out).mono ?_
        rintro e u53 ⟨vc, rfl, hrc, hx⟩
        have g54 := Grows.then g51 hx
        have m55 := Grows.then m52 hx
        clear hx hHeld
        go_wp2_with fail
        refine hK.out _ _ (hk43.out _ m55) (fun hHeld => ?_)
        clear hK K
        try dsimp only [Act.put, List.setIfInBounds_toArray, List.set_cons_zero, List.set_cons_succ]
        refine wpAnyH_listed #[true, true, true, true, true, true, true, true, true, true, true, true, true, true, true, true, true, true, true, true, true, true, true, true, true, true, true, true, true, true, true, true, true, true, true, true, true, true, true, true, true, true, true, true, true, true, true, true, true, true, true, false, false, true, true, true, false, false, false, false] (by kernel_rfl) ?_
        refine wpAnyH_ready (rs := [51]) (by kernel_rfl) (by simp) ?_
        refine AllReadyH.cons (o := ⟨some 62, Op.call { callee := Callee.value (Operand.func 18), args := #[Operand.tmp 61], argTypes := #[23] }, 9, _, _, none⟩) rfl (fun K hK => ?_) AllReadyH.nil
        go_simp
        go_at_call 18
        refine (wtexts_any _ (cutOf t2) _ hrc (by omega) (E1.grows g54)).mono ?_
        rintro e u56 ⟨rfl, hx⟩
        have g57 := Grows.then g54 hx
        have m58 := Grows.then m55 hx
        clear hx hHeld
        go_wp2_with fail
        refine hK.out _ _ (hk43.out _ m58) (fun hHeld => ?_)
        clear hK K
        try dsimp only [Act.put, List.setIfInBounds_toArray, List.set_cons_zero, List.set_cons_succ]
        refine wpAnyH_listed #[true, true, true, true, true, true, true, true, true, true, true, true, true, true, true, true, true, true, true, true, true, true, true, true, true, true, true, true, true, true, true, true, true, true, true, true, true, true, true, true, true, true, true, true, true, true, true, true, true, true, true, true, false, true, true, true, false, false, false, false] (by kernel_rfl) ?_
        refine wpAnyT_begin [58] (by kernel_rfl) (by kernel_rfl) ?_
        refine wpAnyT_take (oi := ⟨some 6, Op.assign (Operand.tmp 39), 9, _, _, none⟩) (v := .string ⟨(encV z N1 S1 L1 (cutOf t1)).toArray⟩) rfl (fun _ _ _ h => h) (by rfl) (by assumption) (fun wS hSw => ?_) ?_
        · (try dsimp only at hSw); go_simp
        dsimp only [Act.put, List.setIfInBounds_toArray, List.set_cons_zero, List.set_cons_succ]
        refine wpAnyT_end ?_
        refine wpAnyH_listed #[true, true, true, true, true, true, true, true, true, true, true, true, true, true, true, true, true, true, true, true, true, true, true, true, true, true, true, true, true, true, true, true, true, true, true, true, true, true, true, true, true, true, true, true, true, true, true, true, true, true, true, true, false, true, true, true, false, false, true, false] (by kernel_rfl) ?_
        refine wpAnyH_ready (rs := [52]) (by kernel_rfl) (by simp) ?_
        refine AllReadyH.cons (o := ⟨some 63, Op.buildSlice 23 4 #[(0, Operand.tmp 42), (1, Operand.tmp 50), (2, Operand.tmp 58), (3, Operand.tmp 62)], 23, _, _, none⟩) rfl (fun K hK => ?_) AllReadyH.nil
        go_simp
        have hb59 : Grows u56 (u56.alloc (.cells #[.string ⟨(encI N2).toArray⟩, .string ⟨(encT S2).toArray⟩, .string ⟨(encL encI L2).toArray⟩, .string ⟨(encL encT (cutOf t2)).toArray⟩] 9)) := (Below.refl _ _).alloc (Nat.le_refl _) _
        have g63 := Grows.then g57 hb59
        have m64 := Grows.then m58 hb59
        have hk61 : ∀ w', Grows (u56.alloc (.cells #[.string ⟨(encI N2).toArray⟩, .string ⟨(encT S2).toArray⟩, .string ⟨(encL encI L2).toArray⟩, .string ⟨(encL encT (cutOf t2)).toArray⟩] 9)) w' → w'.cell? ⟨u56.heap.size, z, none⟩ = some (.string ⟨(encV z N2 S2 L2 (cutOf t2)).toArray⟩) ∧ w'.cell? ⟨u39.heap.size, z, none⟩ = some (.string ⟨(encV z N1 S1 L1 (cutOf t1)).toArray⟩) ∧ w'.cell? ⟨P, 0, none⟩ = some (.int .u8 (n1 : Int)) ∧ w'.cell? ⟨P, 1, none⟩ = some (.int .i64 N1) ∧ w'.cell? ⟨P, 2, none⟩ = some (.string ⟨s1.toArray⟩) ∧ w'.cell? ⟨P, 3, none⟩ = some (.slice a1 l1.length k1) ∧ w'.cell? ⟨P, 4, none⟩ = some (.slice b1 t1.length j1) ∧ w'.cell? ⟨(P + 1), 1, none⟩ = some (.int .i64 N2) ∧ w'.cell? ⟨(P + 1), 2, none⟩ = some (.string ⟨s2.toArray⟩) ∧ w'.cell? ⟨(P + 1), 3, none⟩ = some (.slice a2 l2.length k2) ∧ w'.cell? ⟨(P + 1), 4, none⟩ = some (.slice b2 t2.length j2) ∧ Grows w1 w' := fun w' q => ⟨(q.cell (alloc_lt _ _)).trans (kind_cell hz4 (heap_alloc_new _ _)), hk43.out _ (Grows.then m64 q)⟩
        replace hk61 := Lib.hid hk61
        have m62 : Grows (u56.alloc (.cells #[.string ⟨(encI N2).toArray⟩, .string ⟨(encT S2).toArray⟩, .string ⟨(encL encI L2).toArray⟩, .string ⟨(encL encT (cutOf t2)).toArray⟩] 9)) (u56.alloc (.cells #[.string ⟨(encI N2).toArray⟩, .string ⟨(encT S2).toArray⟩, .string ⟨(encL encI L2).toArray⟩, .string ⟨(encL encT (cutOf t2)).toArray⟩] 9)) := Below.refl _ _
        clear hHeld
        refine hK.out _ _ (hk43.out _ m64) (fun _ => ?_)
        clear hK K
        try dsimp only [Act.put, List.setIfInBounds_toArray, List.set_cons_zero, List.set_cons_succ]
        refine wpAnyH_listed #[true, true, true, true, true, true, true, true, true, true, true, true, true, true, true, true, true, true, true, true, true, true, true, true, true, true, true, true, true, true, true, true, true, true, true, true, true, true, true, true, true, true, true, true, true, true, true, true, true, true, true, true, true, true, true, true, false, false, true, false] (by kernel_rfl) ?_
        refine wpAnyH_more (S := fun w' => w'.cell? ⟨u39.heap.size, z, none⟩ = some (.string ⟨(encV z N1 S1 L1 (cutOf t1)).toArray⟩) ∧ w'.cell? ⟨P, 0, none⟩ = some (.int .u8 (n1 : Int)) ∧ w'.cell? ⟨P, 1, none⟩ = some (.int .i64 N1) ∧ w'.cell? ⟨P, 2, none⟩ = some (.string ⟨s1.toArray⟩) ∧ w'.cell? ⟨P, 3, none⟩ = some (.slice a1 l1.length k1) ∧ w'.cell? ⟨P, 4, none⟩ = some (.slice b1 t1.length j1) ∧ w'.cell? ⟨(P + 1), 1, none⟩ = some (.int .i64 N2) ∧ w'.cell? ⟨(P + 1), 2, none⟩ = some (.string ⟨s2.toArray⟩) ∧ w'.cell? ⟨(P + 1), 3, none⟩ = some (.slice a2 l2.length k2) ∧ w'.cell? ⟨(P + 1), 4, none⟩ = some (.slice b2 t2.length j2) ∧ Grows w1 w') (T := fun w' => w'.cell? ⟨u56.heap.size, z, none⟩ = some (.string ⟨(encV z N2 S2 L2 (cutOf t2)).toArray⟩) ∧ w'.cell? ⟨u39.heap.size, z, none⟩ = some (.string ⟨(encV z N1 S1 L1 (cutOf t1)).toArray⟩) ∧ w'.cell? ⟨P, 0, none⟩ = some (.int .u8 (n1 : Int)) ∧ w'.cell? ⟨P, 1, none⟩ = some (.int .i64 N1) ∧ w'.cell? ⟨P, 2, none⟩ = some (.string ⟨s1.toArray⟩) ∧ w'.cell? ⟨P, 3, none⟩ = some (.slice a1 l1.length k1) ∧ w'.cell? ⟨P, 4, none⟩ = some (.slice b1 t1.length j1) ∧ w'.cell? ⟨(P + 1), 1, none⟩ = some (.int .i64 N2) ∧ w'.cell? ⟨(P + 1), 2, none⟩ = some (.string ⟨s2.toArray⟩) ∧ w'.cell? ⟨(P + 1), 3, none⟩ = some (.slice a2 l2.length k2) ∧ w'.cell? ⟨(P + 1), 4, none⟩ = some (.slice b2 t2.length j2) ∧ Grows w1 w') (fun _ q => q.2) _ _ _ _ ?_
        have hHeld := hk61.out _ m62
        clear hb59
        generalize (u56.alloc (.cells #[.string ⟨(encI N2).toArray⟩, .string ⟨(encT S2).toArray⟩, .string ⟨(encL encI L2).toArray⟩, .string ⟨(encL encT (cutOf t2)).toArray⟩] 9)) = W65 at *
        refine wpAnyT_begin [56, 57] (by kernel_rfl) (by kernel_rfl) ?_
        refine wpAnyT_take (oi := ⟨some 67, Op.indexAddr 23 (Operand.tmp 63) (Operand.tmp 66), 0, _, _, none⟩) (v := .pointer (some ⟨u56.heap.size, z, none⟩)) rfl (fun _ _ _ h => h) (by rfl) (by assumption) (fun wS hSw => ?_) ?_
        · (try dsimp only at hSw); go_simp
        dsimp only [Act.put, List.setIfInBounds_toArray, List.set_cons_zero, List.set_cons_succ]
        refine wpAnyT_take (oi := ⟨some 68, Op.load 9 (Operand.tmp 67), 9, _, _, none⟩) (v := .string ⟨(encV z N2 S2 L2 (cutOf t2)).toArray⟩) rfl (fun _ _ _ h => h) (by rfl) (by assumption) (fun wS hSw => ?_) ?_
        · (try dsimp only at hSw); go_simp
        dsimp only [Act.put, List.setIfInBounds_toArray, List.set_cons_zero, List.set_cons_succ]
        refine wpAnyT_end ?_
        refine wpAnyH_listed #[true, true, true, true, true, true, true, true, true, true, true, true, true, true, true, true, true, true, true, true, true, true, true, true, true, true, true, true, true, true, true, true, true, true, true, true, true, true, true, true, true, true, true, true, true, true, true, true, true, true, true, true, true, true, true, true, true, true, true, false] (by kernel_rfl) ?_
        refine wpAnyT_begin [59] (by kernel_rfl) (by kernel_rfl) ?_
        refine wpAnyT_take (oi := ⟨some 7, Op.assign (Operand.tmp 68), 9, _, _, none⟩) (v := .string ⟨(encV z N2 S2 L2 (cutOf t2)).toArray⟩) rfl (fun _ _ _ h => h) (by rfl) (by assumption) (fun wS hSw => ?_) ?_
        · (try dsimp only at hSw); go_simp
        dsimp only [Act.put, List.setIfInBounds_toArray, List.set_cons_zero, List.set_cons_succ]
        refine wpAnyT_end ?_
        refine wpAnyH_listed #[true, true, true, true, true, true, true, true, true, true, true, true, true, true, true, true, true, true, true, true, true, true, true, true, true, true, true, true, true, true, true, true, true, true, true, true, true, true, true, true, true, true, true, true, true, true, true, true, true, true, true, true, true, true, true, true, true, true, true, true] (by kernel_rfl) ?_
        refine wpAnyH_done (by kernel_rfl) ?_ _
        go_wp2_with fail
        try dsimp only [Act.put, List.setIfInBounds_toArray, List.set_cons_zero, List.set_cons_succ]
        go_meet
        exact ⟨rfl, rfl, g63⟩
      · go_simp
        go_at_call 14
        refine (text_any _ _ (by rw [h562]; omega) (E1.grows g40)).mono ?_
        rintro e u66 ⟨rfl, hx⟩
        have g67 := Grows.then g40 hx
        clear hx hHeld
        go_wp2_with fail
        refine hK.out _ _ (hk.out _ g67) (fun hHeld => ?_)
        clear hK K
        try dsimp only [Act.put, List.setIfInBounds_toArray, List.set_cons_zero, List.set_cons_succ]
        refine wpAnyH_listed #[true, true, true, true, true, true, true, true, true, true, true, true, true, true, true, true, true, true, true, true, true, true, true, false, true, true, true, false, false, true, true, true, true, true, true, true, true, true, true, true, true, true, true, true, true, true, true, false, true, true, false, false, false, true, true, true, false, false, false, false] (by kernel_rfl) ?_
        refine wpAnyH_ready (rs := [23, 47]) (by kernel_rfl) (by simp) ?_
        refine AllReadyH.cons (o := ⟨some 34, Op.buildSlice 23 4 #[(0, Operand.tmp 13), (1, Operand.tmp 21), (2, Operand.tmp 29), (3, Operand.tmp 33)], 23, _, _, none⟩) rfl (fun K hK => ?_) (AllReadyH.cons (o := ⟨some 58, Op.call { callee := Callee.value (Operand.func 16), args := #[Operand.tmp 57], argTypes := #[22] }, 9, _, _, none⟩) rfl (fun K hK => ?_) AllReadyH.nil)
        · go_simp
          have hb68 : Grows u66 (u66.alloc (.cells #[.string ⟨(encI N1).toArray⟩, .string ⟨(encT S1).toArray⟩, .string ⟨(encL encI L1).toArray⟩, .string ⟨(encL encT (cutOf t1)).toArray⟩] 9)) := (Below.refl _ _).alloc (Nat.le_refl _) _
          have g72 := Grows.then g67 hb68
          have hk70 : ∀ w', Grows (u66.alloc (.cells #[.string ⟨(encI N1).toArray⟩, .string ⟨(encT S1).toArray⟩, .string ⟨(encL encI L1).toArray⟩, .string ⟨(encL encT (cutOf t1)).toArray⟩] 9)) w' → w'.cell? ⟨u66.heap.size, z, none⟩ = some (.string ⟨(encV z N1 S1 L1 (cutOf t1)).toArray⟩) ∧ w'.cell? ⟨P, 0, none⟩ = some (.int .u8 (n1 : Int)) ∧ w'.cell? ⟨P, 1, none⟩ = some (.int .i64 N1) ∧ w'.cell? ⟨P, 2, none⟩ = some (.string ⟨s1.toArray⟩) ∧ w'.cell? ⟨P, 3, none⟩ = some (.slice a1 l1.length k1) ∧ w'.cell? ⟨P, 4, none⟩ = some (.slice b1 t1.length j1) ∧ w'.cell? ⟨(P + 1), 1, none⟩ = some (.int .i64 N2) ∧ w'.cell? ⟨(P + 1), 2, none⟩ = some (.string ⟨s2.toArray⟩) ∧ w'.cell? ⟨(P + 1), 3, none⟩ = some (.slice a2 l2.length k2) ∧ w'.cell? ⟨(P + 1), 4, none⟩ = some (.slice b2 t2.length j2) ∧ Grows w1 w' := fun w' q => ⟨(q.cell (alloc_lt _ _)).trans (kind_cell hz4 (heap_alloc_new _ _)), hk.out _ (Grows.then g72 q)⟩
          replace hk70 := Lib.hid hk70
          have m71 : Grows (u66.alloc (.cells #[.string ⟨(encI N1).toArray⟩, .string ⟨(encT S1).toArray⟩, .string ⟨(encL encI L1).toArray⟩, .string ⟨(encL encT (cutOf t1)).toArray⟩] 9)) (u66.alloc (.cells #[.string ⟨(encI N1).toArray⟩, .string ⟨(encT S1).toArray⟩, .string ⟨(encL encI L1).toArray⟩, .string ⟨(encL encT (cutOf t1)).toArray⟩] 9)) := Below.refl _ _
          clear hHeld
          refine hK.out _ _ (hk.out _ g72) (fun _ => ?_)
          clear hK K
          try dsimp only [Act.put, List.setIfInBounds_toArray, List.set_cons_zero, List.set_cons_succ]
          refine wpAnyH_listed #[true, true, true, true, true, true, true, true, true, true, true, true, true, true, true, true, true, true, true, true, true, true, true, true, true, true, true, false, false, true, true, true, true, true, true, true, true, true, true, true, true, true, true, true, true, true, true, false, true, true, false, false, false, true, true, true, false, false, false, false] (by kernel_rfl) ?_
          refine wpAnyH_more (S := fun w' => w'.cell? ⟨P, 0, none⟩ = some (.int .u8 (n1 : Int)) ∧ w'.cell? ⟨P, 1, none⟩ = some (.int .i64 N1) ∧ w'.cell? ⟨P, 2, none⟩ = some (.string ⟨s1.toArray⟩) ∧ w'.cell? ⟨P, 3, none⟩ = some (.slice a1 l1.length k1) ∧ w'.cell? ⟨P, 4, none⟩ = some (.slice b1 t1.length j1) ∧ w'.cell? ⟨(P + 1), 1, none⟩ = some (.int .i64 N2) ∧ w'.cell? ⟨(P + 1), 2, none⟩ = some (.string ⟨s2.toArray⟩) ∧ w'.cell? ⟨(P + 1), 3, none⟩ = some (.slice a2 l2.length k2) ∧ w'.cell? ⟨(P + 1), 4, none⟩ = some (.slice b2 t2.length j2) ∧ Grows w1 w') (T := fun w' => w'.cell? ⟨u66.heap.size, z, none⟩ = some (.string ⟨(encV z N1 S1 L1 (cutOf t1)).toArray⟩) ∧ w'.cell? ⟨P, 0, none⟩ = some (.int .u8 (n1 : Int)) ∧ w'.cell? ⟨P, 1, none⟩ = some (.int .i64 N1) ∧ w'.cell? ⟨P, 2, none⟩ = some (.string ⟨s1.toArray⟩) ∧ w'.cell? ⟨P, 3, none⟩ = some (.slice a1 l1.length k1) ∧ w'.cell? ⟨P, 4, none⟩ = some (.slice b1 t1.length j1) ∧ w'.cell? ⟨(P + 1), 1, none⟩ = some (.int .i64 N2) ∧ w'.cell? ⟨(P + 1), 2, none⟩ = some (.string ⟨s2.toArray⟩) ∧ w'.cell? ⟨(P + 1), 3, none⟩ = some (.slice a2 l2.length k2) ∧ w'.cell? ⟨(P + 1), 4, none⟩ = some (.slice b2 t2.length j2) ∧ Grows w1 w') (fun _ q => q.2) _ _ _ _ ?_
          have hHeld := hk70.out _ m71
          clear hb68
          generalize (u66.alloc (.cells #[.string ⟨(encI N1).toArray⟩, .string ⟨(encT S1).toArray⟩, .string ⟨(encL encI L1).toArray⟩, .string ⟨(encL encT (cutOf t1)).toArray⟩] 9)) = W73 at *
          refine wpAnyT_begin [27, 28] (by kernel_rfl) (by kernel_rfl) ?_
          refine wpAnyT_take (oi := ⟨some 38, Op.indexAddr 23 (Operand.tmp 34) (Operand.tmp 37), 0, _, _, none⟩) (v := .pointer (some ⟨u66.heap.size, z, none⟩)) rfl (fun _ _ _ h => h) (by rfl) (by assumption) (fun wS hSw => ?_) ?_
          · (try dsimp only at hSw); go_simp
          dsimp only [Act.put, List.setIfInBounds_toArray, List.set_cons_zero, List.set_cons_succ]
          refine wpAnyT_take (oi := ⟨some 39, Op.load 9 (Operand.tmp 38), 9, _, _, none⟩) (v := .string ⟨(encV z N1 S1 L1 (cutOf t1)).toArray⟩) rfl (fun _ _ _ h => h) (by rfl) (by assumption) (fun wS hSw => ?_) ?_
          · (try dsimp only at hSw); go_simp
          dsimp only [Act.put, List.setIfInBounds_toArray, List.set_cons_zero, List.set_cons_succ]
          refine wpAnyT_end ?_
          refine wpAnyH_listed #[true, true, true, true, true, true, true, true, true, true, true, true, true, true, true, true, true, true, true, true, true, true, true, true, true, true, true, true, true, true, true, true, true, true, true, true, true, true, true, true, true, true, true, true, true, true, true, false, true, true, false, false, false, true, true, true, false, false, false, false] (by kernel_rfl) ?_
          refine wpAnyH_ready (rs := [47]) (by kernel_rfl) (by simp) ?_
          refine AllReadyH.cons (o := ⟨some 58, Op.call { callee := Callee.value (Operand.func 16), args := #[Operand.tmp 57], argTypes := #[22] }, 9, _, _, none⟩) rfl (fun K hK => ?_) AllReadyH.nil
          go_simp
          go_at_call 16
          refine (wints_any _ L2 _ (h32'.later g72) HL2.out (by omega) (E1.grows g72)).mono ?_
          rintro e u74 ⟨rfl, hx⟩
          have g75 := Grows.then g72 hx
          have m76 := Grows.then m71 hx
          clear hx hHeld
          go_wp2_with fail
          refine hK.out _ _ (hk70.out _ m76) (fun hHeld => ?_)
          clear hK K
          try dsimp only [Act.put, List.setIfInBounds_toArray, List.set_cons_zero, List.set_cons_succ]
          refine wpAnyH_listed #[true, true, true, true, true, true, true, true, true, true, true, true, true, true, true, true, true, true, true, true, true, true, true, true, true, true, true, true, true, true, true, true, true, true, true, true, true, true, true, true, true, true, true, true, true, true, true, true, true, true, false, false, false, true, true, true, false, false, false, false] (by kernel_rfl) ?_
          refine wpAnyH_ready (rs := [50]) (by kernel_rfl) (by simp) ?_
          refine AllReadyH.cons (o := ⟨some 61, Op.call { callee := Callee.value (Operand.func 11), args := #[Operand.tmp 60], argTypes := #[23] }, 23, _, _, none⟩) rfl (fun K hK => ?_) AllReadyH.nil
          go_simp
          go_at_call 11
          refine (cut_any _ t2 _ (h42.later g75) HT2.out).mono ?_
          rintro e u77 ⟨vc, rfl, hrc, hx⟩
          have g78 := Grows.then g75 hx
          have m79 := Grows.then m76 hx
          clear hx hHeld
          go_wp2_with fail
          refine hK.out _ _ (hk70.out _ m79) (fun hHeld => ?_)
          clear hK K
          try dsimp only [Act.put, List.setIfInBounds_toArray, List.set_cons_zero, List.set_cons_succ]
          refine wpAnyH_listed #[true, true, true, true, true, true, true, true, true, true, true, true, true, true, true, true, true, true, true, true, true, true, true, true, true, true, true, true, true, true, true, true, true, true, true, true, true, true, true, true, true, true, true, true, true, true, true, true, true, true, true, false, false, true, true, true, false, false, false, false] (by kernel_rfl) ?_
          refine wpAnyH_ready (rs := [51]) (by kernel_rfl) (by simp) ?_
          refine AllReadyH.cons (o := ⟨some 62, Op.call { callee := Callee.value (Operand.func 18), args := #[Operand.tmp 61], argTypes := #[23] }, 9, _, _, none⟩) rfl (fun K hK => ?_) AllReadyH.nil
          go_simp
          go_at_call 18
          refine (wtexts_any _ (cutOf t2) _ hrc (by omega) (E1.grows g78)).mono ?_
          rintro e u80 ⟨rfl, hx⟩
          have g81 := Grows.then g78 hx
          have m82 := Grows.then m79 hx
          clear hx hHeld
          go_wp2_with fail
          refine hK.out _ _ (hk70.out _ m82) (fun hHeld => ?_)
          clear hK K
          try dsimp only [Act.put, List.setIfInBounds_toArray, List.set_cons_zero, List.set_cons_succ]
          refine wpAnyH_listed #[true, true, true, true, true, true, true, true, true, true, true, true, true, true, true, true, true, true, true, true, true, true, true, true, true, true, true, true, true, true, true, true, true, true, true, true, true, true, true, true, true, true, true, true, true, true, true, true, true, true, true, true, false, true, true, true, false, false, false, false] (by kernel_rfl) ?_
          refine wpAnyT_begin [58] (by kernel_rfl) (by kernel_rfl) ?_
          refine wpAnyT_take (oi := ⟨some 6, Op.assign (Operand.tmp 39), 9, _, _, none⟩) (v := .string ⟨(encV z N1 S1 L1 (cutOf t1)).toArray⟩) rfl (fun _ _ _ h => h) (by rfl) (by assumption) (fun wS hSw => ?_) ?_
          · (try dsimp only at hSw); go_simp
          dsimp only [Act.put, List.setIfInBounds_toArray, List.set_cons_zero, List.set_cons_succ]
          refine wpAnyT_end ?_
          refine wpAnyH_listed #[true, true, true, true, true, true, true, true, true, true, true, true, true, true, true, true, true, true, true, true, true, true, true, true, true, true, true, true, true, true, true, true, true, true, true, true, true, true, true, true, true, true, true, true, true, true, true, true, true, true, true, true, false, true, true, true, false, false, true, false] (by kernel_rfl) ?_
          refine wpAnyH_ready (rs := [52]) (by kernel_rfl) (by simp) ?_
          refine AllReadyH.cons (o := ⟨some 63, Op.buildSlice 23 4 #[(0, Operand.tmp 42), (1, Operand.tmp 50), (2, Operand.tmp 58), (3, Operand.tmp 62)], 23, _, _, none⟩) rfl (fun K hK => ?_) AllReadyH.nil
          go_simp
          have hb83 : Grows u80 (u80.alloc (.cells #[.string ⟨(encI N2).toArray⟩, .string ⟨(encT S2).toArray⟩, .string ⟨(encL encI L2).toArray⟩, .string ⟨(encL encT (cutOf t2)).toArray⟩] 9)) := (Below.refl _ _).alloc (Nat.le_refl _) _
          have g87 := Grows.then g81 hb83
          have m88 := Grows.then m82 hb83
          have hk85 : ∀ w', Grows (u80.alloc (.cells #[.string ⟨(encI N2).toArray⟩, .string ⟨(encT S2).toArray⟩, .string ⟨(encL encI L2).toArray⟩, .string ⟨(encL encT (cutOf t2)).toArray⟩] 9)) w' → w'.cell? ⟨u80.heap.size, z, none⟩ = some (.string ⟨(encV z N2 S2 L2 (cutOf t2)).toArray⟩) ∧ w'.cell? ⟨u66.heap.size, z, none⟩ = some (.string ⟨(encV z N1 S1 L1 (cutOf t1)).toArray⟩) ∧ w'.cell? ⟨P, 0, none⟩ = some (.int .u8 (n1 : Int)) ∧ w'.cell? ⟨P, 1, none⟩ = some (.int .i64 N1) ∧ w'.cell? ⟨P, 2, none⟩ = some (.string ⟨s1.toArray⟩) ∧ w'.cell? ⟨P, 3, none⟩ = some (.slice a1 l1.length k1) ∧ w'.cell? ⟨P, 4, none⟩ = some (.slice b1 t1.length j1) ∧ w'.cell? ⟨(P + 1), 1, none⟩ = some (.int .i64 N2) ∧ w'.cell? ⟨(P + 1), 2, none⟩ = some (.string ⟨s2.toArray⟩) ∧ w'.cell? ⟨(P + 1), 3, none⟩ = some (.slice a2 l2.length k2) ∧ w'.cell? ⟨(P + 1), 4, none⟩ = some (.slice b2 t2.length j2) ∧ Grows w1 w' := fun w' q => ⟨(q.cell (alloc_lt _ _)).trans (kind_cell hz4 (heap_alloc_new _ _)), hk70.out _ (Grows.then m88 q)⟩
          replace hk85 := Lib.hid hk85
          have m86 : Grows (u80.alloc (.cells #[.string ⟨(encI N2).toArray⟩, .string ⟨(encT S2).toArray⟩, .string ⟨(encL encI L2).toArray⟩, .string ⟨(encL encT (cutOf t2)).toArray⟩] 9)) (u80.alloc (.cells #[.string ⟨(encI N2).toArray⟩, .string ⟨(encT S2).toArray⟩, .string ⟨(encL encI L2).toArray⟩, .string ⟨(encL encT (cutOf t2)).toArray⟩] 9)) := Below.refl _ _
          clear hHeld
          refine hK.out _ _ (hk70.out _ m88) (fun _ => ?_)
          clear hK K
          try dsimp only [Act.put, List.setIfInBounds_toArray, List.set_cons_zero, List.set_cons_succ]
          refine wpAnyH_listed #[true, true, true, true, true, true, true, true, true, true, true, true, true, true, true, true, true, true, true, true, true, true, true, true, true, true, true, true, true, true, true, true, true, true, true, true, true, true, true, true, true, true, true, true, true, true, true, true, true, true, true, true, true, true, true, true, false, false, true, false] (by kernel_rfl) ?_
          refine wpAnyH_more (S := fun w' => w'.cell? ⟨u66.heap.size, z, none⟩ = some (.string ⟨(encV z N1 S1 L1 (cutOf t1)).toArray⟩) ∧ w'.cell? ⟨P, 0, none⟩ = some (.int .u8 (n1 : Int)) ∧ w'.cell? ⟨P, 1, none⟩ = some (.int .i64 N1) ∧ w'.cell? ⟨P, 2, none⟩ = some (.string ⟨s1.toArray⟩) ∧ w'.cell? ⟨P, 3, none⟩ = some (.slice a1 l1.length k1) ∧ w'.cell? ⟨P, 4, none⟩ = some (.slice b1 t1.length j1) ∧ w'.cell? ⟨(P + 1), 1, none⟩ = some (.int .i64 N2) ∧ w'.cell? ⟨(P + 1), 2, none⟩ = some (.string ⟨s2.toArray⟩) ∧ w'.cell? ⟨(P + 1), 3, none⟩ = some (.slice a2 l2.length k2) ∧ w'.cell? ⟨(P + 1), 4, none⟩ = some (.slice b2 t2.length j2) ∧ Grows w1 w') (T := fun w' => w'.cell? ⟨u80.heap.size, z, none⟩ = some (.string ⟨(encV z N2 S2 L2 (cutOf t2)).toArray⟩) ∧ w'.cell? ⟨u66.heap.size, z, none⟩ = some (.string ⟨(encV z N1 S1 L1 (cutOf t1)).toArray⟩) ∧ w'.cell? ⟨P, 0, none⟩ = some (.int .u8 (n1 : Int)) ∧ w'.cell? ⟨P, 1, none⟩ = some (.int .i64 N1) ∧ w'.cell? ⟨P, 2, none⟩ = some (.string ⟨s1.toArray⟩) ∧ w'.cell? ⟨P, 3, none⟩ = some (.slice a1 l1.length k1) ∧ w'.cell? ⟨P, 4, none⟩ = some (.slice b1 t1.length j1) ∧ w'.cell? ⟨(P + 1), 1, none⟩ = some (.int .i64 N2) ∧ w'.cell? ⟨(P + 1), 2, none⟩ = some (.string ⟨s2.toArray⟩) ∧ w'.cell? ⟨(P + 1), 3, none⟩ = some (.slice a2 l2.length k2) ∧ w'.cell? ⟨(P + 1), 4, none⟩ = some (.slice b2 t2.length j2) ∧ Grows w1 w') (fun _ q => q.2) _ _ _ _ ?_
          have hHeld := hk85.out _ m86
          clear hb83
          generalize (u80.alloc (.cells #[.string ⟨(encI N2).toArray⟩, .string ⟨(encT S2).toArray⟩, .string ⟨(encL encI L2).toArray⟩, .string ⟨(encL encT (cutOf t2)).toArray⟩] 9)) = W89 at *
          refine wpAnyT_begin [56, 57] (by kernel_rfl) (by kernel_rfl) ?_
          refine wpAnyT_take (oi := ⟨some 67, Op.indexAddr 23 (Operand.tmp 63) (Operand.tmp 66), 0, _, _, none⟩) (v := .pointer (some ⟨u80.heap.size, z, none⟩)) rfl (fun _ _ _ h => h) (by rfl) (by assumption) (fun wS hSw => ?_) ?_
          · (try dsimp only at hSw); go_simp
          dsimp only [Act.put, List.setIfInBounds_toArray, List.set_cons_zero, List.set_cons_succ]
          refine wpAnyT_take (oi := ⟨some 68, Op.load 9 (Operand.tmp 67), 9, _, _, none⟩) (v := .string ⟨(encV z N2 S2 L2 (cutOf t2)).toArray⟩) rfl (fun _ _ _ h => h) (by rfl) (by assumption) (fun wS hSw => ?_) ?_
          · (try dsimp only at hSw); go_simp
          dsimp only [Act.put, List.setIfInBounds_toArray, List.set_cons_zero, List.set_cons_succ]
          refine wpAnyT_end ?_
          refine wpAnyH_listed #[true, true, true, true, true, true, true, true, true, true, true, true, true, true, true, true, true, true, true, true, true, true, true, true, true, true, true, true, true, true, true, true, true, true, true, true, true, true, true, true, true, true, true, true, true, true, true, true, true, true, true, true, true, true, true, true, true, true, true, false] (by kernel_rfl) ?_
          refine wpAnyT_begin [59] (by kernel_rfl) (by kernel_rfl) ?_
          refine wpAnyT_take (oi := ⟨some 7, Op.assign (Operand.tmp 68), 9, _, _, none⟩) (v := .string ⟨(encV z N2 S2 L2 (cutOf t2)).toArray⟩) rfl (fun _ _ _ h => h) (by rfl) (by assumption) (fun wS hSw => ?_) ?_
          · (try dsimp only at hSw); go_simp
          dsimp only [Act.put, List.setIfInBounds_toArray, List.set_cons_zero, List.set_cons_succ]
          refine wpAnyT_end ?_
          refine wpAnyH_listed #[true, true, true, true, true, true, true, true, true, true, true, true, true, true, true, true, true, true, true, true, true, true, true, true, true, true, true, true, true, true, true, true, true, true, true, true, true, true, true, true, true, true, true, true, true, true, true, true, true, true, true, true, true, true, true, true, true, true, true, true] (by kernel_rfl) ?_
          refine wpAnyH_done (by kernel_rfl) ?_ _
          go_wp2_with fail
          try dsimp only [Act.put, List.setIfInBounds_toArray, List.set_cons_zero, List.set_cons_succ]
          go_meet
          exact ⟨rfl, rfl, g87⟩
        · go_simp
          go_at_call 16
          refine (wints_any _ L2 _ (h32'.later g67) HL2.out (by omega) (E1.grows g67)).mono ?_
          rintro e u90 ⟨rfl, hx⟩
          have g91 := Grows.then g67 hx
          clear hx hHeld
          go_wp2_with fail
          refine hK.out _ _ (hk.out _ g91) (fun hHeld => ?_)
          clear hK K
          try dsimp only [Act.put, List.setIfInBounds_toArray, List.set_cons_zero, List.set_cons_succ]
          refine wpAnyH_listed #[true, true, true, true, true, true, true, true, true, true, true, true, true, true, true, true, true, true, true, true, true, true, true, false, true, true, true, false, false, true, true, true, true, true, true, true, true, true, true, true, true, true, true, true, true, true, true, true, true, true, false, false, false, true, true, true, false, false, false, false] (by kernel_rfl) ?_
          refine wpAnyH_ready (rs := [23, 50]) (by kernel_rfl) (by simp) ?_
          refine AllReadyH.cons (o := ⟨some 34, Op.buildSlice 23 4 #[(0, Operand.tmp 13), (1, Operand.tmp 21), (2, Operand.tmp 29), (3, Operand.tmp 33)], 23, _, _, none⟩) rfl (fun K hK => ?_) (AllReadyH.cons (o := ⟨some 61, Op.call { callee := Callee.value (Operand.func 11), args := #[Operand.tmp 60], argTypes := #[23] }, 23, _, _, none⟩) rfl (fun K hK => ?_) AllReadyH.nil)
          · go_simp
            have hb92 : Grows u90 (u90.alloc (.cells #[.string ⟨(encI N1).toArray⟩, .string ⟨(encT S1).toArray⟩, .string ⟨(encL encI L1).toArray⟩, .string ⟨(encL encT (cutOf t1)).toArray⟩] 9)) := (Below.refl _ _).alloc (Nat.le_refl _) _
            have g96 := Grows.then g91 hb92
            have hk94 : ∀ w', Grows (u90.alloc (.cells #[.string ⟨(encI N1).toArray⟩, .string ⟨(encT S1).toArray⟩, .string ⟨(encL encI L1).toArray⟩, .string ⟨(encL encT (cutOf t1)).toArray⟩] 9)) w' → w'.cell? ⟨u90.heap.size, z, none⟩ = some (.string ⟨(encV z N1 S1 L1 (cutOf t1)).toArray⟩) ∧ w'.cell? ⟨P, 0, none⟩ = some (.int .u8 (n1 : Int)) ∧ w'.cell? ⟨P, 1, none⟩ = some (.int .i64 N1) ∧ w'.cell? ⟨P, 2, none⟩ = some (.string ⟨s1.toArray⟩) ∧ w'.cell? ⟨P, 3, none⟩ = some (.slice a1 l1.length k1) ∧ w'.cell? ⟨P, 4, none⟩ = some (.slice b1 t1.length j1) ∧ w'.cell? ⟨(P + 1), 1, none⟩ = some (.int .i64 N2) ∧ w'.cell? ⟨(P + 1), 2, none⟩ = some (.string ⟨s2.toArray⟩) ∧ w'.cell? ⟨(P + 1), 3, none⟩ = some (.slice a2 l2.length k2) ∧ w'.cell? ⟨(P + 1), 4, none⟩ = some (.slice b2 t2.length j2) ∧ Grows w1 w' := fun w' q => ⟨(q.cell (alloc_lt _ _)).trans (kind_cell hz4 (heap_alloc_new _ _)), hk.out _ (Grows.then g96 q)⟩
            replace hk94 := Lib.hid hk94
            have m95 : Grows (u90.alloc (.cells #[.string ⟨(encI N1).toArray⟩, .string ⟨(encT S1).toArray⟩, .string ⟨(encL encI L1).toArray⟩, .string ⟨(encL encT (cutOf t1)).toArray⟩] 9)) (u90.alloc (.cells #[.string ⟨(encI N1).toArray⟩, .string ⟨(encT S1).toArray⟩, .string ⟨(encL encI L1).toArray⟩, .string ⟨(encL encT (cutOf t1)).toArray⟩] 9)) := Below.refl _ _
            clear hHeld
            refine hK.out _ _ (hk.out _ g96) (fun _ => ?_)
            clear hK K
            try dsimp only [Act.put, List.setIfInBounds_toArray, List.set_cons_zero, List.set_cons_succ]
            refine wpAnyH_listed #[true, true, true, true, true, true, true, true, true, true, true, true, true, true, true, true, true, true, true, true, true, true, true, true, true, true, true, false, false, true, true, true, true, true, true, true, true, true, true, true, true, true, true, true, true, true, true, true, true, true, false, false, false, true, true, true, false, false, false, false] (by kernel_rfl) ?_
            refine wpAnyH_more (S := fun w' => w'.cell? ⟨P, 0, none⟩ = some (.int .u8 (n1 : Int)) ∧ w'.cell? ⟨P, 1, none⟩ = some (.int .i64 N1) ∧ w'.cell? ⟨P, 2, none⟩ = some (.string ⟨s1.toArray⟩) ∧ w'.cell? ⟨P, 3, none⟩ = some (.slice a1 l1.length k1) ∧ w'.cell? ⟨P, 4, none⟩ = some (.slice b1 t1.length j1) ∧ w'.cell? ⟨(P + 1), 1, none⟩ = some (.int .i64 N2) ∧ w'.cell? ⟨(P + 1), 2, none⟩ = some (.string ⟨s2.toArray⟩) ∧ w'.cell? ⟨(P + 1), 3, none⟩ = some (.slice a2 l2.length k2) ∧ w'.cell? ⟨(P + 1), 4, none⟩ = some (.slice b2 t2.length j2) ∧ Grows w1 w') (T := fun w' => w'.cell? ⟨u90.heap.size, z, none⟩ = some (.string ⟨(encV z N1 S1 L1 (cutOf t1)).toArray⟩) ∧ w'.cell? ⟨P, 0, none⟩ = some (.int .u8 (n1 : Int)) ∧ w'.cell? ⟨P, 1, none⟩ = some (.int .i64 N1) ∧ w'.cell? ⟨P, 2, none⟩ = some (.string ⟨s1.toArray⟩) ∧ w'.cell? ⟨P, 3, none⟩ = some (.slice a1 l1.length k1) ∧ w'.cell? ⟨P, 4, none⟩ = some (.slice b1 t1.length j1) ∧ w'.cell? ⟨(P + 1), 1, none⟩ = some (.int .i64 N2) ∧ w'.cell? ⟨(P + 1), 2, none⟩ = some (.string ⟨s2.toArray⟩) ∧ w'.cell? ⟨(P + 1), 3, none⟩ = some (.slice a2 l2.length k2) ∧ w'.cell? ⟨(P + 1), 4, none⟩ = some (.slice b2 t2.length j2) ∧ Grows w1 w') (fun _ q => q.2) _ _ _ _ ?_
            have hHeld := hk94.out _ m95
            clear hb92
            generalize (u90.alloc (.cells #[.string ⟨(encI N1).toArray⟩, .string ⟨(encT S1).toArray⟩, .string ⟨(encL encI L1).toArray⟩, .string ⟨(encL encT (cutOf t1)).toArray⟩] 9)) = W97 at *
            refine wpAnyT_begin [27, 28] (by kernel_rfl) (by kernel_rfl) ?_
            refine wpAnyT_take (oi := ⟨some 38, Op.indexAddr 23 (Operand.tmp 34) (Operand.tmp 37), 0, _, _, none⟩) (v := .pointer (some ⟨u90.heap.size, z, none⟩)) rfl (fun _ _ _ h => h) (by rfl) (by assumption) (fun wS hSw => ?_) ?_
            · (try dsimp only at hSw); go_simp
            dsimp only [Act.put, List.setIfInBounds_toArray, List.set_cons_zero, List.set_cons_succ]
            refine wpAnyT_take (oi := ⟨some 39, Op.load 9 (Operand.tmp 38), 9, _, _, none⟩) (v := .string ⟨(encV z N1 S1 L1 (cutOf t1)).toArray⟩) rfl (fun _ _ _ h => h) (by rfl) (by assumption) (fun wS hSw => ?_) ?_
            · (try dsimp only at hSw); go_simp
            dsimp only [Act.put, List.setIfInBounds_toArray, List.set_cons_zero, List.set_cons_succ]
            refine wpAnyT_end ?_
            refine wpAnyH_listed #[true, true, true, true, true, true, true, true, true, true, true, true, true, true, true, true, true, true, true, true, true, true, true, true, true, true, true, true, true, true, true, true, true, true, true, true, true, true, true, true, true, true, true, true, true, true, true, true, true, true, false, false, false, true, true, true, false, false, false, false] (by kernel_rfl) ?_
            refine wpAnyH_ready (rs := [50]) (by kernel_rfl) (by simp) ?_
            refine AllReadyH.cons (o := ⟨some 61, Op.call { callee := Callee.value (Operand.func 11), args := #[Operand.tmp 60], argTypes := #[23] }, 23, _, _, none⟩) rfl (fun K hK => ?_) AllReadyH.nil
            go_simp
            go_at_call 11
            refine (cut_any _ t2 _ (h42.later g96) HT2.out).mono ?_
            rintro e u98 ⟨vc, rfl, hrc, hx⟩
            have g99 := Grows.then g96 hx
            have m100 := Grows.then m95 hx
            clear hx hHeld
            go_wp2_with fail
            refine hK.out _ _ (hk94.out _ m100) (fun hHeld => ?_)
            clear hK K
            try dsimp only [Act.put, List.setIfInBounds_toArray, List.set_cons_zero, List.set_cons_succ]
            refine wpAnyH_listed #[true, true, true, true, true, true, true, true, true, true, true, true, true, true, true, true, true, true, true, true, true, true, true, true, true, true, true, true, true, true, true, true, true, true, true, true, true, true, true, true, true, true, true, true, true, true, true, true, true, true, true, false, false, true, true, true, false, false, false, false] (by kernel_rfl) ?_
            refine wpAnyH_ready (rs := [51]) (by kernel_rfl) (by simp) ?_
            refine AllReadyH.cons (o := ⟨some 62, Op.call { callee := Callee.value (Operand.func 18), args := #[Operand.tmp 61], argTypes := #[23] }, 9, _, _, none⟩) rfl (fun K hK => ?_) AllReadyH.nil
            go_simp
            go_at_call 18
            refine (wtexts_any _ (cutOf t2) _ hrc (by omega) (E1.grows g99)).mono ?_
            rintro e u101 ⟨rfl, hx⟩
            have g102 := Grows.then g99 hx
            have m103 := Grows.then m100 hx
            clear hx hHeld
            go_wp2_with fail
            refine hK.out _ _ (hk94.out _ m103) (fun hHeld => ?_)
            clear hK K
            try dsimp only [Act.put, List.setIfInBounds_toArray, List.set_cons_zero, List.set_cons_succ]
            refine wpAnyH_listed #[true, true, true, true, true, true, true, true, true, true, true, true, true, true, true, true, true, true, true, true, true, true, true, true, true, true, true, true, true, true, true, true, true, true, true, true, true, true, true, true, true, true, true, true, true, true, true, true, true, true, true, true, false, true, true, true, false, false, false, false] (by kernel_rfl) ?_
            refine wpAnyT_begin [58] (by kernel_rfl) (by kernel_rfl) ?_
            refine wpAnyT_take (oi := ⟨some 6, Op.assign (Operand.tmp 39), 9, _, _, none⟩) (v := .string ⟨(encV z N1 S1 L1 (cutOf t1)).toArray⟩) rfl (fun _ _ _ h => h) (by rfl) (by assumption) (fun wS hSw => ?_) ?_
            · (try dsimp only at hSw); go_simp
            dsimp only [Act.put, List.setIfInBounds_toArray, List.set_cons_zero, List.set_cons_succ]
            refine wpAnyT_end ?_
            refine wpAnyH_listed #[true, true, true, true, true, true, true, true, true, true, true, true, true, true, true, true, true, true, true, true, true, true, true, true, true, true, true, true, true, true, true, true, true, true, true, true, true, true, true, true, true, true, true, true, true, true, true, true, true, true, true, true, false, true, true, true, false, false, true, false] (by kernel_rfl) ?_
            refine wpAnyH_ready (rs := [52]) (by kernel_rfl) (by simp) ?_
            refine AllReadyH.cons (o := ⟨some 63, Op.buildSlice 23 4 #[(0, Operand.tmp 42), (1, Operand.tmp 50), (2, Operand.tmp 58), (3, Operand.tmp 62)], 23, _, _, none⟩) rfl (fun K hK => ?_) AllReadyH.nil
            go_simp
            have hb104 : Grows u101 (u101.alloc (.cells #[.string ⟨(encI N2).toArray⟩, .string ⟨(encT S2).toArray⟩, .string ⟨(encL encI L2).toArray⟩, .string ⟨(encL encT (cutOf t2)).toArray⟩] 9)) := (Below.refl _ _).alloc (Nat.le_refl _) _
            have g108 := Grows.then g102 hb104
            have m109 := Grows.then m103 hb104
            have hk106 : ∀ w', Grows (u101.alloc (.cells #[.string ⟨(encI N2).toArray⟩, .string ⟨(encT S2).toArray⟩, .string ⟨(encL encI L2).toArray⟩, .string ⟨(encL encT (cutOf t2)).toArray⟩] 9)) w' → w'.cell? ⟨u101.heap.size, z, none⟩ = some (.string ⟨(encV z N2 S2 L2 (cutOf t2)).toArray⟩) ∧ w'.cell? ⟨u90.heap.size, z, none⟩ = some (.string ⟨(encV z N1 S1 L1 (cutOf t1)).toArray⟩) ∧ w'.cell? ⟨P, 0, none⟩ = some (.int .u8 (n1 : Int)) ∧ w'.cell? ⟨P, 1, none⟩ = some (.int .i64 N1) ∧ w'.cell? ⟨P, 2, none⟩ = some (.string ⟨s1.toArray⟩) ∧ w'.cell? ⟨P, 3, none⟩ = some (.slice a1 l1.length k1) ∧ w'.cell? ⟨P, 4, none⟩ = some (.slice b1 t1.length j1) ∧ w'.cell? ⟨(P + 1), 1, none⟩ = some (.int .i64 N2) ∧ w'.cell? ⟨(P + 1), 2, none⟩ = some (.string ⟨s2.toArray⟩) ∧ w'.cell? ⟨(P + 1), 3, none⟩ = some (.slice a2 l2.length k2) ∧ w'.cell? ⟨(P + 1), 4, none⟩ = some (.slice b2 t2.length j2) ∧ Grows w1 w' := fun w' q => ⟨(q.cell (alloc_lt _ _)).trans (kind_cell hz4 (heap_alloc_new _ _)), hk94.out _ (Grows.then m109 q)⟩
            replace hk106 := Lib.hid hk106
            have m107 : Grows (u101.alloc (.cells #[.string ⟨(encI N2).toArray⟩, .string ⟨(encT S2).toArray⟩, .string ⟨(encL encI L2).toArray⟩, .string ⟨(encL encT (cutOf t2)).toArray⟩] 9)) (u101.alloc (.cells #[.string ⟨(encI N2).toArray⟩, .string ⟨(encT S2).toArray⟩, .string ⟨(encL encI L2).toArray⟩, .string ⟨(encL encT (cutOf t2)).toArray⟩] 9)) := Below.refl _ _
            clear hHeld
            refine hK.out _ _ (hk94.out _ m109) (fun _ => ?_)
            clear hK K
            try dsimp only [Act.put, List.setIfInBounds_toArray, List.set_cons_zero, List.set_cons_succ]
            refine wpAnyH_listed #[true, true, true, true, true, true, true, true, true, true, true, true, true, true, true, true, true, true, true, true, true, true, true, true, true, true, true, true, true, true, true, true, true, true, true, true, true, true, true, true, true, true, true, true, true, true, true, true, true, true, true, true, true, true, true, true, false, false, true, false] (by kernel_rfl) ?_
            refine wpAnyH_more (S := fun w' => w'.cell? ⟨u90.heap.size, z, none⟩ = some (.string ⟨(encV z N1 S1 L1 (cutOf t1)).toArray⟩) ∧ w'.cell? ⟨P, 0, none⟩ = some (.int .u8 (n1 : Int)) ∧ w'.cell? ⟨P, 1, none⟩ = some (.int .i64 N1) ∧ w'.cell? ⟨P, 2, none⟩ = some (.string ⟨s1.toArray⟩) ∧ w'.cell? ⟨P, 3, none⟩ = some (.slice a1 l1.length k1) ∧ w'.cell? ⟨P, 4, none⟩ = some (.slice b1 t1.length j1) ∧ w'.cell? ⟨(P + 1), 1, none⟩ = some (.int .i64 N2) ∧ w'.cell? ⟨(P + 1), 2, none⟩ = some (.string ⟨s2.toArray⟩) ∧ w'.cell? ⟨(P + 1), 3, none⟩ = some (.slice a2 l2.length k2) ∧ w'.cell? ⟨(P + 1), 4, none⟩ = some (.slice b2 t2.length j2) ∧ Grows w1 w') (T := fun w' => w'.cell? ⟨u101.heap.size, z, none⟩ = some (.string ⟨(encV z N2 S2 L2 (cutOf t2)).toArray⟩) ∧ w'.cell? ⟨u90.heap.size, z, none⟩ = some (.string ⟨(encV z N1 S1 L1 (cutOf t1)).toArray⟩) ∧ w'.cell? ⟨P, 0, none⟩ = some (.int .u8 (n1 : Int)) ∧ w'.cell? ⟨P, 1, none⟩ = some (.int .i64 N1) ∧ w'.cell? ⟨P, 2, none⟩ = some (.string ⟨s1.toArray⟩) ∧ w'.cell? ⟨P, 3, none⟩ = some (.slice a1 l1.length k1) ∧ w'.cell? ⟨P, 4, none⟩ = some (.slice b1 t1.length j1) ∧ w'.cell? ⟨(P + 1), 1, none⟩ = some (.int .i64 N2) ∧ w'.cell? ⟨(P + 1), 2, none⟩ = some (.string ⟨s2.toArray⟩) ∧ w'.cell? ⟨(P + 1), 3, none⟩ = some (.slice a2 l2.length k2) ∧ w'.cell? ⟨(P + 1), 4, none⟩ = some (.slice b2 t2.length j2) ∧ Grows w1 w') (fun _ q => q.2) _ _ _ _ ?_
            have hHeld := hk106.out _ m107
            clear hb104
            generalize (u101.alloc (.cells #[.string ⟨(encI N2).toArray⟩, .string ⟨(encT S2).toArray⟩, .string ⟨(encL encI L2).toArray⟩, .string ⟨(encL encT (cutOf t2)).toArray⟩] 9)) = W110 at *
            refine wpAnyT_begin [56, 57] (by kernel_rfl) (by kernel_rfl) ?_
            refine wpAnyT_take (oi := ⟨some 67, Op.indexAddr 23 (Operand.tmp 63) (Operand.tmp 66), 0, _, _, none⟩) (v := .pointer (some ⟨u101.heap.size, z, none⟩)) rfl (fun _ _ _ h => h) (by rfl) (by assumption) (fun wS hSw => ?_) ?_
            · (try dsimp only at hSw); go_simp
            dsimp only [Act.put, List.setIfInBounds_toArray, List.set_cons_zero, List.set_cons_succ]
            refine wpAnyT_take (oi := ⟨some 68, Op.load 9 (Operand.tmp 67), 9, _, _, none⟩) (v := .string ⟨(encV z N2 S2 L2 (cutOf t2)).toArray⟩) rfl (fun _ _ _ h => h) (by rfl) (by assumption) (fun wS hSw => ?_) ?_
            · (try dsimp only at hSw); go_simp
            dsimp only [Act.put, List.setIfInBounds_toArray, List.set_cons_zero, List.set_cons_succ]
            refine wpAnyT_end ?_
            refine wpAnyH_listed #[true, true, true, true, true, true, true, true, true, true, true, true, true, true, true, true, true, true, true, true, true, true, true, true, true, true, true, true, true, true, true, true, true, true, true, true, true, true, true, true, true, true, true, true, true, true, true, true, true, true, true, true, true, true, true, true, true, true, true, false] (by kernel_rfl) ?_
            refine wpAnyT_begin [59] (by kernel_rfl) (by kernel_rfl) ?_
            refine wpAnyT_take (oi := ⟨some 7, Op.assign (Operand.tmp 68), 9, _, _, none⟩) (v := .string ⟨(encV z N2 S2 L2 (cutOf t2)).toArray⟩) rfl (fun _ _ _ h => h) (by rfl) (by assumption) (fun wS hSw => ?_) ?_
            · (try dsimp only at hSw); go_simp
            dsimp only [Act.put, List.setIfInBounds_toArray, List.set_cons_zero, List.set_cons_succ]
            refine wpAnyT_end ?_
            refine wpAnyH_listed #[true, true, true, true, true, true, true, true, true, true, true, true, true, true, true, true, true, true, true, true, true, true, true, true, true, true, true, true, true, true, true, true, true, true, true, true, true, true, true, true, true, true, true, true, true, true, true, true, true, true, true, true, true, true, true, true, true, true, true, true] (by kernel_rfl) ?_
            refine wpAnyH_done (by kernel_rfl) ?_ _
            go_wp2_with fail
            try dsimp only [Act.put, List.setIfInBounds_toArray, List.set_cons_zero, List.set_cons_succ]
            go_meet
            exact ⟨rfl, rfl, g108⟩
          · go_simp
            go_at_call 11
            refine (cut_any _ t2 _ (h42.later g91) HT2.out).mono ?_
            rintro e u111 ⟨vc, rfl, hrc, hx⟩
            have g112 := Grows.then g91 hx
            clear hx hHeld
            go_wp2_with fail
            refine hK.out _ _ (hk.out _ g112) (fun hHeld => ?_)
            clear hK K
            try dsimp only [Act.put, List.setIfInBounds_toArray, List.set_cons_zero, List.set_cons_succ]
            refine wpAnyH_listed #[true, true, true, true, true, true, true, true, true, true, true, true, true, true, true, true, true, true, true, true, true, true, true, false, true, true, true, false, false, true, true, true, true, true, true, true, true, true, true, true, true, true, true, true, true, true, true, true, true, true, true, false, false, true, true, true, false, false, false, false] (by kernel_rfl) ?_
            refine wpAnyH_ready (rs := [23, 51]) (by kernel_rfl) (by simp) ?_
            refine AllReadyH.cons (o := ⟨some 34, Op.buildSlice 23 4 #[(0, Operand.tmp 13), (1, Operand.tmp 21), (2, Operand.tmp 29), (3, Operand.tmp 33)], 23, _, _, none⟩) rfl (fun K hK => ?_) (AllReadyH.cons (o := ⟨some 62, Op.call { callee := Callee.value (Operand.func 18), args := #[Operand.tmp 61], argTypes := #[23] }, 9, _, _, none⟩) rfl (fun K hK => ?_) AllReadyH.nil)
            · go_simp
              have hb113 : Grows u111 (u111.alloc (.cells #[.string ⟨(encI N1).toArray⟩, .string ⟨(encT S1).toArray⟩, .string ⟨(encL encI L1).toArray⟩, .string ⟨(encL encT (cutOf t1)).toArray⟩] 9)) := (Below.refl _ _).alloc (Nat.le_refl _) _
              replace hrc := hrc.later hb113
              have g117 := Grows.then g112 hb113
              have hk115 : ∀ w', Grows (u111.alloc (.cells #[.string ⟨(encI N1).toArray⟩, .string ⟨(encT S1).toArray⟩, .string ⟨(encL encI L1).toArray⟩, .string ⟨(encL encT (cutOf t1)).toArray⟩] 9)) w' → w'.cell? ⟨u111.heap.size, z, none⟩ = some (.string ⟨(encV z N1 S1 L1 (cutOf t1)).toArray⟩) ∧ w'.cell? ⟨P, 0, none⟩ = some (.int .u8 (n1 : Int)) ∧ w'.cell? ⟨P, 1, none⟩ = some (.int .i64 N1) ∧ w'.cell? ⟨P, 2, none⟩ = some (.string ⟨s1.toArray⟩) ∧ w'.cell? ⟨P, 3, none⟩ = some (.slice a1 l1.length k1) ∧ w'.cell? ⟨P, 4, none⟩ = some (.slice b1 t1.length j1) ∧ w'.cell? ⟨(P + 1), 1, none⟩ = some (.int .i64 N2) ∧ w'.cell? ⟨(P + 1), 2, none⟩ = some (.string ⟨s2.toArray⟩) ∧ w'.cell? ⟨(P + 1), 3, none⟩ = some (.slice a2 l2.length k2) ∧ w'.cell? ⟨(P + 1), 4, none⟩ = some (.slice b2 t2.length j2) ∧ Grows w1 w' := fun w' q => ⟨(q.cell (alloc_lt _ _)).trans (kind_cell hz4 (heap_alloc_new _ _)), hk.out _ (Grows.then g117 q)⟩
              replace hk115 := Lib.hid hk115
              have m116 : Grows (u111.alloc (.cells #[.string ⟨(encI N1).toArray⟩, .string ⟨(encT S1).toArray⟩, .string ⟨(encL encI L1).toArray⟩, .string ⟨(encL encT (cutOf t1)).toArray⟩] 9)) (u111.alloc (.cells #[.string ⟨(encI N1).toArray⟩, .string ⟨(encT S1).toArray⟩, .string ⟨(encL encI L1).toArray⟩, .string ⟨(encL encT (cutOf t1)).toArray⟩] 9)) := Below.refl _ _
              clear hHeld
              refine hK.out _ _ (hk.out _ g117) (fun _ => ?_)
              clear hK K
              try dsimp only [Act.put, List.setIfInBounds_toArray, List.set_cons_zero, List.set_cons_succ]
              refine wpAnyH_listed #[true, true, true, true, true, true, true, true, true, true, true, true, true, true, true, true, true, true, true, true, true, true, true, true, true, true, true, false, false, true, true, true, true, true, true, true, true, true, true, true, true, true, true, true, true, true, true, true, true, true, true, false, false, true, true, true, false, false, false, false] (by kernel_rfl) ?_
              refine wpAnyH_more (S := fun w' => w'.cell? ⟨P, 0, none⟩ = some (.int .u8 (n1 : Int)) ∧ w'.cell? ⟨P, 1, none⟩ = some (.int .i64 N1) ∧ w'.cell? ⟨P, 2, none⟩ = some (.string ⟨s1.toArray⟩) ∧ w'.cell? ⟨P, 3, none⟩ = some (.slice a1 l1.length k1) ∧ w'.cell? ⟨P, 4, none⟩ = some (.slice b1 t1.length j1) ∧ w'.cell? ⟨(P + 1), 1, none⟩ = some (.int .i64 N2) ∧ w'.cell? ⟨(P + 1), 2, none⟩ = some (.string ⟨s2.toArray⟩) ∧ w'.cell? ⟨(P + 1), 3, none⟩ = some (.slice a2 l2.length k2) ∧ w'.cell? ⟨(P + 1), 4, none⟩ = some (.slice b2 t2.length j2) ∧ Grows w1 w') (T := fun w' => w'.cell? ⟨u111.heap.size, z, none⟩ = some (.string ⟨(encV z N1 S1 L1 (cutOf t1)).toArray⟩) ∧ w'.cell? ⟨P, 0, none⟩ = some (.int .u8 (n1 : Int)) ∧ w'.cell? ⟨P, 1, none⟩ = some (.int .i64 N1) ∧ w'.cell? ⟨P, 2, none⟩ = some (.string ⟨s1.toArray⟩) ∧ w'.cell? ⟨P, 3, none⟩ = some (.slice a1 l1.length k1) ∧ w'.cell? ⟨P, 4, none⟩ = some (.slice b1 t1.length j1) ∧ w'.cell? ⟨(P + 1), 1, none⟩ = some (.int .i64 N2) ∧ w'.cell? ⟨(P + 1), 2, none⟩ = some (.string ⟨s2.toArray⟩) ∧ w'.cell? ⟨(P + 1), 3, none⟩ = some (.slice a2 l2.length k2) ∧ w'.cell? ⟨(P + 1), 4, none⟩ = some (.slice b2 t2.length j2) ∧ Grows w1 w') (fun _ q => q.2) _ _ _ _ ?_
              have hHeld := hk115.out _ m116
              clear hb113
              generalize (u111.alloc (.cells #[.string ⟨(encI N1).toArray⟩, .string ⟨(encT S1).toArray⟩, .string ⟨(encL encI L1).toArray⟩, .string ⟨(encL encT (cutOf t1)).toArray⟩] 9)) = W118 at *
              refine wpAnyT_begin [27, 28] (by kernel_rfl) (by kernel_rfl) ?_
              refine wpAnyT_take (oi := ⟨some 38, Op.indexAddr 23 (Operand.tmp 34) (Operand.tmp 37), 0, _, _, none⟩) (v := .pointer (some ⟨u111.heap.size, z, none⟩)) rfl (fun _ _ _ h => h) (by rfl) (by assumption) (fun wS hSw => ?_) ?_
              · (try dsimp only at hSw); go_simp
              dsimp only [Act.put, List.setIfInBounds_toArray, List.set_cons_zero, List.set_cons_succ]
              refine wpAnyT_take (oi := ⟨some 39, Op.load 9 (Operand.tmp 38), 9, _, _, none⟩) (v := .string ⟨(encV z N1 S1 L1 (cutOf t1)).toArray⟩) rfl (fun _ _ _ h => h) (by rfl) (by assumption) (fun wS hSw => ?_) ?_
              · (try dsimp only at hSw); go_simp
              dsimp only [Act.put, List.setIfInBounds_toArray, List.set_cons_zero, List.set_cons_succ]
              refine wpAnyT_end ?_
              refine wpAnyH_listed #[true, true, true, true, true, true, true, true, true, true, true, true, true, true, true, true, true, true, true, true, true, true, true, true, true, true, true, true, true, true, true, true, true, true, true, true, true, true, true, true, true, true, true, true, true, true, true, true, true, true, true, false, false, true, true, true, false, false, false, false] (by kernel_rfl) ?_
              refine wpAnyH_ready (rs := [51]) (by kernel_rfl) (by simp) ?_
              refine AllReadyH.cons (o := ⟨some 62, Op.call { callee := Callee.value (Operand.func 18), args := #[Operand.tmp 61], argTypes := #[23] }, 9, _, _, none⟩) rfl (fun K hK => ?_) AllReadyH.nil
              go_simp
              go_at_call 18
              refine (wtexts_any _ (cutOf t2) _ hrc (by omega) (E1.grows g117)).mono ?_
              rintro e u119 ⟨rfl, hx⟩
              have g120 := Grows.then g117 hx
              have m121 := Grows.then m116 hx
              clear hx hHeld
              go_wp2_with fail
              refine hK.out _ _ (hk115.out _ m121) (fun hHeld => ?_)
              clear hK K
              try dsimp only [Act.put, List.setIfInBounds_toArray, List.set_cons_zero, List.set_cons_succ]
              refine wpAnyH_listed #[true, true, true, true, true, true, true, true, true, true, true, true, true, true, true, true, true, true, true, true, true, true, true, true, true, true, true, true, true, true, true, true, true, true, true, true, true, true, true, true, true, true, true, true, true, true, true, true, true, true, true, true, false, true, true, true, false, false, false, false] (by kernel_rfl) ?_
              refine wpAnyT_begin [58] (by kernel_rfl) (by kernel_rfl) ?_
              refine wpAnyT_take (oi := ⟨some 6, Op.assign (Operand.tmp 39), 9, _, _, none⟩) (v := .string ⟨(encV z N1 S1 L1 (cutOf t1)).toArray⟩) rfl (fun _ _ _ h => h) (by rfl) (by assumption) (fun wS hSw => ?_) ?_
              · (try dsimp only at hSw); go_simp
              dsimp only [Act.put, List.setIfInBounds_toArray, List.set_cons_zero, List.set_cons_succ]
              refine wpAnyT_end ?_
              refine wpAnyH_listed #[true, true, true, true, true, true, true, true, true, true, true, true, true, true, true, true, true, true, true, true, true, true, true, true, true, true, true, true, true, true, true, true, true, true, true, true, true, true, true, true, true, true, true, true, true, true, true, true, true, true, true, true, false, true, true, true, false, false, true, false] (by kernel_rfl) ?_
              refine wpAnyH_ready (rs := [52]) (by kernel_rfl) (by simp) ?_
              refine AllReadyH.cons (o := ⟨some 63, Op.buildSlice 23 4 #[(0, Operand.tmp 42), (1, Operand.tmp 50), (2, Operand.tmp 58), (3, Operand.tmp 62)], 23, _, _, none⟩) rfl (fun K hK => ?_) AllReadyH.nil
              go_simp
              have hb122 : Grows u119 (u119.alloc (.cells #[.string ⟨(encI N2).toArray⟩, .string ⟨(encT S2).toArray⟩, .string ⟨(encL encI L2).toArray⟩, .string ⟨(encL encT (cutOf t2)).toArray⟩] 9)) := (Below.refl _ _).alloc (Nat.le_refl _) _
              have g126 := Grows.then g120 hb122
              have m127 := Grows.then m121 hb122
              have hk124 : ∀ w', Grows (u119.alloc (.cells #[.string ⟨(encI N2).toArray⟩, .string ⟨(encT S2).toArray⟩, .string ⟨(encL encI L2).toArray⟩, .string ⟨(encL encT (cutOf t2)).toArray⟩] 9)) w' → w'.cell? ⟨u119.heap.size, z, none⟩ = some (.string ⟨(encV z N2 S2 L2 (cutOf t2)).toArray⟩) ∧ w'.cell? ⟨u111.heap.size, z, none⟩ = some (.string ⟨(encV z N1 S1 L1 (cutOf t1)).toArray⟩) ∧ w'.cell? ⟨P, 0, none⟩ = some (.int .u8 (n1 : Int)) ∧ w'.cell? ⟨P, 1, none⟩ = some (.int .i64 N1) ∧ w'.cell? ⟨P, 2, none⟩ = some (.string ⟨s1.toArray⟩) ∧ w'.cell? ⟨P, 3, none⟩ = some (.slice a1 l1.length k1) ∧ w'.cell? ⟨P, 4, none⟩ = some (.slice b1 t1.length j1) ∧ w'.cell? ⟨(P + 1), 1, none⟩ = some (.int .i64 N2) ∧ w'.cell? ⟨(P + 1), 2, none⟩ = some (.string ⟨s2.toArray⟩) ∧ w'.cell? ⟨(P + 1), 3, none⟩ = some (.slice a2 l2.length k2) ∧ w'.cell? ⟨(P + 1), 4, none⟩ = some (.slice b2 t2.length j2) ∧ Grows w1 w' := fun w' q => ⟨(q.cell (alloc_lt _ _)).trans (kind_cell hz4 (heap_alloc_new _ _)), hk115.out _ (Grows.then m127 q)⟩
              replace hk124 := Lib.hid hk124
              have m125 : Grows (u119.alloc (.cells #[.string ⟨(encI N2).toArray⟩, .string ⟨(encT S2).toArray⟩, .string ⟨(encL encI L2).toArray⟩, .string ⟨(encL encT (cutOf t2)).toArray⟩] 9)) (u119.alloc (.cells #[.string ⟨(encI N2).toArray⟩, .string ⟨(encT S2).toArray⟩, .string ⟨(encL encI L2).toArray⟩, .string ⟨(encL encT (cutOf t2)).toArray⟩] 9)) := Below.refl _ _
              clear hHeld
              refine hK.out _ _ (hk115.out _ m127) (fun _ => ?_)
              clear hK K
              try dsimp only [Act.put, List.setIfInBounds_toArray, List.set_cons_zero, List.set_cons_succ]
              refine wpAnyH_listed #[true, true, true, true, true, true, true, true, true, true, true, true, true, true, true, true, true, true, true, true, true, true, true, true, true, true, true, true, true, true, true, true, true, true, true, true, true, true, true, true, true, true, true, true, true, true, true, true, true, true, true, true, true, true, true, true, false, false, true, false] (by kernel_rfl) ?_
              refine wpAnyH_more (S := fun w' => w'.cell? ⟨u111.heap.size, z, none⟩ = some (.string ⟨(encV z N1 S1 L1 (cutOf t1)).toArray⟩) ∧ w'.cell? ⟨P, 0, none⟩ = some (.int .u8 (n1 : Int)) ∧ w'.cell? ⟨P, 1, none⟩ = some (.int .i64 N1) ∧ w'.cell? ⟨P, 2, none⟩ = some (.string ⟨s1.toArray⟩) ∧ w'.cell? ⟨P, 3, none⟩ = some (.slice a1 l1.length k1) ∧ w'.cell? ⟨P, 4, none⟩ = some (.slice b1 t1.length j1) ∧ w'.cell? ⟨(P + 1), 1, none⟩ = some (.int .i64 N2) ∧ w'.cell? ⟨(P + 1), 2, none⟩ = some (.string ⟨s2.toArray⟩) ∧ w'.cell? ⟨(P + 1), 3, none⟩ = some (.slice a2 l2.length k2) ∧ w'.cell? ⟨(P + 1), 4, none⟩ = some (.slice b2 t2.length j2) ∧ Grows w1 w') (T := fun w' => w'.cell? ⟨u119.heap.size, z, none⟩ = some (.string ⟨(encV z N2 S2 L2 (cutOf t2)).toArray⟩) ∧ w'.cell? ⟨u111.heap.size, z, none⟩ = some (.string ⟨(encV z N1 S1 L1 (cutOf t1)).toArray⟩) ∧ w'.cell? ⟨P, 0, none⟩ = some (.int .u8 (n1 : Int)) ∧ w'.cell? ⟨P, 1, none⟩ = some (.int .i64 N1) ∧ w'.cell? ⟨P, 2, none⟩ = some (.string ⟨s1.toArray⟩) ∧ w'.cell? ⟨P, 3, none⟩ = some (.slice a1 l1.length k1) ∧ w'.cell? ⟨P, 4, none⟩ = some (.slice b1 t1.length j1) ∧ w'.cell? ⟨(P + 1), 1, none⟩ = some (.int .i64 N2) ∧ w'.cell? ⟨(P + 1), 2, none⟩ = some (.string ⟨s2.toArray⟩) ∧ w'.cell? ⟨(P + 1), 3, none⟩ = some (.slice a2 l2.length k2) ∧ w'.cell? ⟨(P + 1), 4, none⟩ = some (.slice b2 t2.length j2) ∧ Grows w1 w') (fun _ q => q.2) _ _ _ _ ?_
              have hHeld := hk124.out _ m125
              clear hb122
              generalize (u119.alloc (.cells #[.string ⟨(encI N2).toArray⟩, .string ⟨(encT S2).toArray⟩, .string ⟨(encL encI L2).toArray⟩, .string ⟨(encL encT (cutOf t2)).toArray⟩] 9)) = W128 at *
              refine wpAnyT_begin [56, 57] (by kernel_rfl) (by kernel_rfl) ?_
              refine wpAnyT_take (oi := ⟨some 67, Op.indexAddr 23 (Operand.tmp 63) (Operand.tmp 66), 0, _, _, none⟩) (v := .pointer (some ⟨u119.heap.size, z, none⟩)) rfl (fun _ _ _ h => h) (by rfl) (by assumption) (fun wS hSw => ?_) ?_
              · (try dsimp only at hSw); go_simp
              dsimp only [Act.put, List.setIfInBounds_toArray, List.set_cons_zero, List.set_cons_succ]
              refine wpAnyT_take (oi := ⟨some 68, Op.load 9 (Operand.tmp 67), 9, _, _, none⟩) (v := .string ⟨(encV z N2 S2 L2 (cutOf t2)).toArray⟩) rfl (fun _ _ _ h => h) (by rfl) (by assumption) (fun wS hSw => ?_) ?_
              · (try dsimp only at hSw); go_simp
              dsimp only [Act.put, List.setIfInBounds_toArray, List.set_cons_zero, List.set_cons_succ]
              refine wpAnyT_end ?_
              refine wpAnyH_listed #[true, true, true, true, true, true, true, true, true, true, true, true, true, true, true, true, true, true, true, true, true, true, true, true, true, true, true, true, true, true, true, true, true, true, true, true, true, true, true, true, true, true, true, true, true, true, true, true, true, true, true, true, true, true, true, true, true, true, true, false] (by kernel_rfl) ?_
              refine wpAnyT_begin [59] (by kernel_rfl) (by kernel_rfl) ?_
              refine wpAnyT_take (oi := ⟨some 7, Op.assign (Operand.tmp 68), 9, _, _, none⟩) (v := .string ⟨(encV z N2 S2 L2 (cutOf t2)).toArray⟩) rfl (fun _ _ _ h => h) (by rfl) (by assumption) (fun wS hSw => ?_) ?_
              · (try dsimp only at hSw); go_simp
              dsimp only [Act.put, List.setIfInBounds_toArray, List.set_cons_zero, List.set_cons_succ]
              refine wpAnyT_end ?_
              refine wpAnyH_listed #[true, true, true, true, true, true, true, true, true, true, true, true, true, true, true, true, true, true, true, true, true, true, true, true, true, true, true, true, true, true, true, true, true, true, true, true, true, true, true, true, true, true, true, true, true, true, true, true, true, true, true, true, true, true, true, true, true, true, true, true] (by kernel_rfl) ?_
              refine wpAnyH_done (by kernel_rfl) ?_ _
              go_wp2_with fail
              try dsimp only [Act.put, List.setIfInBounds_toArray, List.set_cons_zero, List.set_cons_succ]
              go_meet
              exact ⟨rfl, rfl, g126⟩
            · go_simp
              go_at_call 18
              refine (wtexts_any _ (cutOf t2) _ hrc (by omega) (E1.grows g112)).mono ?_
              rintro e u129 ⟨rfl, hx⟩
              have g130 := Grows.then g112 hx
              clear hx hHeld
              go_wp2_with fail
              refine hK.out _ _ (hk.out _ g130) (fun hHeld => ?_)
              clear hK K
              try dsimp only [Act.put, List.setIfInBounds_toArray, List.set_cons_zero, List.set_cons_succ]
              refine wpAnyH_listed #[true, true, true, true, true, true, true, true, true, true, true, true, true, true, true, true, true, true, true, true, true, true, true, false, true, true, true, false, false, true, true, true, true, true, true, true, true, true, true, true, true, true, true, true, true, true, true, true, true, true, true, true, false, true, true, true, false, false, false, false] (by kernel_rfl) ?_
              refine wpAnyH_ready (rs := [23, 52]) (by kernel_rfl) (by simp) ?_
              refine AllReadyH.cons (o := ⟨some 34, Op.buildSlice 23 4 #[(0, Operand.tmp 13), (1, Operand.tmp 21), (2, Operand.tmp 29), (3, Operand.tmp 33)], 23, _, _, none⟩) rfl (fun K hK => ?_) (AllReadyH.cons (o := ⟨some 63, Op.buildSlice 23 4 #[(0, Operand.tmp 42), (1, Operand.tmp 50), (2, Operand.tmp 58), (3, Operand.tmp 62)], 23, _, _, none⟩) rfl (fun K hK => ?_) AllReadyH.nil)
              · go_simp
                have hb131 : Grows u129 (u129.alloc (.cells #[.string ⟨(encI N1).toArray⟩, .string ⟨(encT S1).toArray⟩, .string ⟨(encL encI L1).toArray⟩, .string ⟨(encL encT (cutOf t1)).toArray⟩] 9)) := (Below.refl _ _).alloc (Nat.le_refl _) _
                have g135 := Grows.then g130 hb131
                have hk133 : ∀ w', Grows (u129.alloc (.cells #[.string ⟨(encI N1).toArray⟩, .string ⟨(encT S1).toArray⟩, .string ⟨(encL encI L1).toArray⟩, .string ⟨(encL encT (cutOf t1)).toArray⟩] 9)) w' → w'.cell? ⟨u129.heap.size, z, none⟩ = some (.string ⟨(encV z N1 S1 L1 (cutOf t1)).toArray⟩) ∧ w'.cell? ⟨P, 0, none⟩ = some (.int .u8 (n1 : Int)) ∧ w'.cell? ⟨P, 1, none⟩ = some (.int .i64 N1) ∧ w'.cell? ⟨P, 2, none⟩ = some (.string ⟨s1.toArray⟩) ∧ w'.cell? ⟨P, 3, none⟩ = some (.slice a1 l1.length k1) ∧ w'.cell? ⟨P, 4, none⟩ = some (.slice b1 t1.length j1) ∧ w'.cell? ⟨(P + 1), 1, none⟩ = some (.int .i64 N2) ∧ w'.cell? ⟨(P + 1), 2, none⟩ = some (.string ⟨s2.toArray⟩) ∧ w'.cell? ⟨(P + 1), 3, none⟩ = some (.slice a2 l2.length k2) ∧ w'.cell? ⟨(P + 1), 4, none⟩ = some (.slice b2 t2.length j2) ∧ Grows w1 w' := fun w' q => ⟨(q.cell (alloc_lt _ _)).trans (kind_cell hz4 (heap_alloc_new _ _)), hk.out _ (Grows.then g135 q)⟩
                replace hk133 := Lib.hid hk133
                have m134 : Grows (u129.alloc (.cells #[.string ⟨(encI N1).toArray⟩, .string ⟨(encT S1).toArray⟩, .string ⟨(encL encI L1).toArray⟩, .string ⟨(encL encT (cutOf t1)).toArray⟩] 9)) (u129.alloc (.cells #[.string ⟨(encI N1).toArray⟩, .string ⟨(encT S1).toArray⟩, .string ⟨(encL encI L1).toArray⟩, .string ⟨(encL encT (cutOf t1)).toArray⟩] 9)) := Below.refl _ _
                clear hHeld
                refine hK.out _ _ (hk.out _ g135) (fun _ => ?_)
                clear hK K
                try dsimp only [Act.put, List.setIfInBounds_toArray, List.set_cons_zero, List.set_cons_succ]
                refine wpAnyH_listed #[true, true, true, true, true, true, true, true, true, true, true, true, true, true, true, true, true, true, true, true, true, true, true, true, true, true, true, false, false, true, true, true, true, true, true, true, true, true, true, true, true, true, true, true, true, true, true, true, true, true, true, true, false, true, true, true, false, false, false, false] (by kernel_rfl) ?_
                refine wpAnyH_more (S := fun w' => w'.cell? ⟨P, 0, none⟩ = some (.int .u8 (n1 : Int)) ∧ w'.cell? ⟨P, 1, none⟩ = some (.int .i64 N1) ∧ w'.cell? ⟨P, 2, none⟩ = some (.string ⟨s1.toArray⟩) ∧ w'.cell? ⟨P, 3, none⟩ = some (.slice a1 l1.length k1) ∧ w'.cell? ⟨P, 4, none⟩ = some (.slice b1 t1.length j1) ∧ w'.cell? ⟨(P + 1), 1, none⟩ = some (.int .i64 N2) ∧ w'.cell? ⟨(P + 1), 2, none⟩ = some (.string ⟨s2.toArray⟩) ∧ w'.cell? ⟨(P + 1), 3, none⟩ = some (.slice a2 l2.length k2) ∧ w'.cell? ⟨(P + 1), 4, none⟩ = some (.slice b2 t2.length j2) ∧ Grows w1 w') (T := fun w' => w'.cell? ⟨u129.heap.size, z, none⟩ = some (.string ⟨(encV z N1 S1 L1 (cutOf t1)).toArray⟩) ∧ w'.cell? ⟨P, 0, none⟩ = some (.int .u8 (n1 : Int)) ∧ w'.cell? ⟨P, 1, none⟩ = some (.int .i64 N1) ∧ w'.cell? ⟨P, 2, none⟩ = some (.string ⟨s1.toArray⟩) ∧ w'.cell? ⟨P, 3, none⟩ = some (.slice a1 l1.length k1) ∧ w'.cell? ⟨P, 4, none⟩ = some (.slice b1 t1.length j1) ∧ w'.cell? ⟨(P + 1), 1, none⟩ = some (.int .i64 N2) ∧ w'.cell? ⟨(P + 1), 2, none⟩ = some (.string ⟨s2.toArray⟩) ∧ w'.cell? ⟨(P + 1), 3, none⟩ = some (.slice a2 l2.length k2) ∧ w'.cell? ⟨(P + 1), 4, none⟩ = some (.slice b2 t2.length j2) ∧ Grows w1 w') (fun _ q => q.2) _ _ _ _ ?_
                have hHeld := hk133.out _ m134
                clear hb131
                generalize (u129.alloc (.cells #[.string ⟨(encI N1).toArray⟩, .string ⟨(encT S1).toArray⟩, .string ⟨(encL encI L1).toArray⟩, .string ⟨(encL encT (cutOf t1)).toArray⟩] 9)) = W136 at *
                refine wpAnyT_begin [27, 28] (by kernel_rfl) (by kernel_rfl) ?_
                refine wpAnyT_take (oi := ⟨some 38, Op.indexAddr 23 (Operand.tmp 34) (Operand.tmp 37), 0, _, _, none⟩) (v := .pointer (some ⟨u129.heap.size, z, none⟩)) rfl (fun _ _ _ h => h) (by rfl) (by assumption) (fun wS hSw => ?_) ?_
                · (try dsimp only at hSw); go_simp
                dsimp only [Act.put, List.setIfInBounds_toArray, List.set_cons_zero, List.set_cons_succ]
                refine wpAnyT_take (oi := ⟨some 39, Op.load 9 (Operand.tmp 38), 9, _, _, none⟩) (v := .string ⟨(encV z N1 S1 L1 (cutOf t1)).toArray⟩) rfl (fun _ _ _ h => h) (by rfl) (by assumption) (fun wS hSw => ?_) ?_
                · (try dsimp only at hSw); go_simp
                dsimp only [Act.put, List.setIfInBounds_toArray, List.set_cons_zero, List.set_cons_succ]
                refine wpAnyT_end ?_
                refine wpAnyH_listed #[true, true, true, true, true, true, true, true, true, true, true, true, true, true, true, true, true, true, true, true, true, true, true, true, true, true, true, true, true, true, true, true, true, true, true, true, true, true, true, true, true, true, true, true, true, true, true, true, true, true, true, true, false, true, true, true, false, false, false, false] (by kernel_rfl) ?_
                refine wpAnyT_begin [58] (by kernel_rfl) (by kernel_rfl) ?_
                refine wpAnyT_take (oi := ⟨some 6, Op.assign (Operand.tmp 39), 9, _, _, none⟩) (v := .string ⟨(encV z N1 S1 L1 (cutOf t1)).toArray⟩) rfl (fun _ _ _ h => h) (by rfl) (by assumption) (fun wS hSw => ?_) ?_
                · (try dsimp only at hSw); go_simp
                dsimp only [Act.put, List.setIfInBounds_toArray, List.set_cons_zero, List.set_cons_succ]
                refine wpAnyT_end ?_
                refine wpAnyH_listed #[true, true, true, true, true, true, true, true, true, true, true, true, true, true, true, true, true, true, true, true, true, true, true, true, true, true, true, true, true, true, true, true, true, true, true, true, true, true, true, true, true, true, true, true, true, true, true, true, true, true, true, true, false, true, true, true, false, false, true, false] (by kernel_rfl) ?_
                refine wpAnyH_ready (rs := [52]) (by kernel_rfl) (by simp) ?_
                refine AllReadyH.cons (o := ⟨some 63, Op.buildSlice 23 4 #[(0, Operand.tmp 42), (1, Operand.tmp 50), (2, Operand.tmp 58), (3, Operand.tmp 62)], 23, _, _, none⟩) rfl (fun K hK => ?_) AllReadyH.nil
                go_simp
                have hb137 : Grows W136 (W136.alloc (.cells #[.string ⟨(encI N2).toArray⟩, .string ⟨(encT S2).toArray⟩, .string ⟨(encL encI L2).toArray⟩, .string ⟨(encL encT (cutOf t2)).toArray⟩] 9)) := (Below.refl _ _).alloc (Nat.le_refl _) _
                have g141 := Grows.then g135 hb137
                have m142 := Grows.then m134 hb137
                have hk139 : ∀ w', Grows (W136.alloc (.cells #[.string ⟨(encI N2).toArray⟩, .string ⟨(encT S2).toArray⟩, .string ⟨(encL encI L2).toArray⟩, .string ⟨(encL encT (cutOf t2)).toArray⟩] 9)) w' → w'.cell? ⟨W136.heap.size, z, none⟩ = some (.string ⟨(encV z N2 S2 L2 (cutOf t2)).toArray⟩) ∧ w'.cell? ⟨u129.heap.size, z, none⟩ = some (.string ⟨(encV z N1 S1 L1 (cutOf t1)).toArray⟩) ∧ w'.cell? ⟨P, 0, none⟩ = some (.int .u8 (n1 : Int)) ∧ w'.cell? ⟨P, 1, none⟩ = some (.int .i64 N1) ∧ w'.cell? ⟨P, 2, none⟩ = some (.string ⟨s1.toArray⟩) ∧ w'.cell? ⟨P, 3, none⟩ = some (.slice a1 l1.length k1) ∧ w'.cell? ⟨P, 4, none⟩ = some (.slice b1 t1.length j1) ∧ w'.cell? ⟨(P + 1), 1, none⟩ = some (.int .i64 N2) ∧ w'.cell? ⟨(P + 1), 2, none⟩ = some (.string ⟨s2.toArray⟩) ∧ w'.cell? ⟨(P + 1), 3, none⟩ = some (.slice a2 l2.length k2) ∧ w'.cell? ⟨(P + 1), 4, none⟩ = some (.slice b2 t2.length j2) ∧ Grows w1 w' := fun w' q => ⟨(q.cell (alloc_lt _ _)).trans (kind_cell hz4 (heap_alloc_new _ _)), hk133.out _ (Grows.then m142 q)⟩
                replace hk139 := Lib.hid hk139
                have m140 : Grows (W136.alloc (.cells #[.string ⟨(encI N2).toArray⟩, .string ⟨(encT S2).toArray⟩, .string ⟨(encL encI L2).toArray⟩, .string ⟨(encL encT (cutOf t2)).toArray⟩] 9)) (W136.alloc (.cells #[.string ⟨(encI N2).toArray⟩, .string ⟨(encT S2).toArray⟩, .string ⟨(encL encI L2).toArray⟩, .string ⟨(encL encT (cutOf t2)).toArray⟩] 9)) := Below.refl _ _
                clear hHeld
                refine hK.out _ _ (hk133.out _ m142) (fun _ => ?_)
                clear hK K
                try dsimp only [Act.put, List.setIfInBounds_toArray, List.set_cons_zero, List.set_cons_succ]
                refine wpAnyH_listed #[true, true, true, true, true, true, true, true, true, true, true, true, true, true, true, true, true, true, true, true, true, true, true, true, true, true, true, true, true, true, true, true, true, true, true, true, true, true, true, true, true, true, true, true, true, true, true, true, true, true, true, true, true, true, true, true, false, false, true, false] (by kernel_rfl) ?_
                refine wpAnyH_more (S := fun w' => w'.cell? ⟨u129.heap.size, z, none⟩ = some (.string ⟨(encV z N1 S1 L1 (cutOf t1)).toArray⟩) ∧ w'.cell? ⟨P, 0, none⟩ = some (.int .u8 (n1 : Int)) ∧ w'.cell? ⟨P, 1, none⟩ = some (.int .i64 N1) ∧ w'.cell? ⟨P, 2, none⟩ = some (.string ⟨s1.toArray⟩) ∧ w'.cell? ⟨P, 3, none⟩ = some (.slice a1 l1.length k1) ∧ w'.cell? ⟨P, 4, none⟩ = some (.slice b1 t1.length j1) ∧ w'.cell? ⟨(P + 1), 1, none⟩ = some (.int .i64 N2) ∧ w'.cell? ⟨(P + 1), 2, none⟩ = some (.string ⟨s2.toArray⟩) ∧ w'.cell? ⟨(P + 1), 3, none⟩ = some (.slice a2 l2.length k2) ∧ w'.cell? ⟨(P + 1), 4, none⟩ = some (.slice b2 t2.length j2) ∧ Grows w1 w') (T := fun w' => w'.cell? ⟨W136.heap.size, z, none⟩ = some (.string ⟨(encV z N2 S2 L2 (cutOf t2)).toArray⟩) ∧ w'.cell? ⟨u129.heap.size, z, none⟩ = some (.string ⟨(encV z N1 S1 L1 (cutOf t1)).toArray⟩) ∧ w'.cell? ⟨P, 0, none⟩ = some (.int .u8 (n1 : Int)) ∧ w'.cell? ⟨P, 1, none⟩ = some (.int .i64 N1) ∧ w'.cell? ⟨P, 2, none⟩ = some (.string ⟨s1.toArray⟩) ∧ w'.cell? ⟨P, 3, none⟩ = some (.slice a1 l1.length k1) ∧ w'.cell? ⟨P, 4, none⟩ = some (.slice b1 t1.length j1) ∧ w'.cell? ⟨(P + 1), 1, none⟩ = some (.int .i64 N2) ∧ w'.cell? ⟨(P + 1), 2, none⟩ = some (.string ⟨s2.toArray⟩) ∧ w'.cell? ⟨(P + 1), 3, none⟩ = some (.slice a2 l2.length k2) ∧ w'.cell? ⟨(P + 1), 4, none⟩ = some (.slice b2 t2.length j2) ∧ Grows w1 w') (fun _ q => q.2) _ _ _ _ ?_
                have hHeld := hk139.out _ m140
                clear hb137
                generalize (W136.alloc (.cells #[.string ⟨(encI N2).toArray⟩, .string ⟨(encT S2).toArray⟩, .string ⟨(encL encI L2).toArray⟩, .string ⟨(encL encT (cutOf t2)).toArray⟩] 9)) = W143 at *
                refine wpAnyT_begin [56, 57] (by kernel_rfl) (by kernel_rfl) ?_
                refine wpAnyT_take (oi := ⟨some 67, Op.indexAddr 23 (Operand.tmp 63) (Operand.tmp 66), 0, _, _, none⟩) (v := .pointer (some ⟨W136.heap.size, z, none⟩)) rfl (fun _ _ _ h => h) (by rfl) (by assumption) (fun wS hSw => ?_) ?_
                · (try dsimp only at hSw); go_simp
                dsimp only [Act.put, List.setIfInBounds_toArray, List.set_cons_zero, List.set_cons_succ]
                refine wpAnyT_take (oi := ⟨some 68, Op.load 9 (Operand.tmp 67), 9, _, _, none⟩) (v := .string ⟨(encV z N2 S2 L2 (cutOf t2)).toArray⟩) rfl (fun _ _ _ h => h) (by rfl) (by assumption) (fun wS hSw => ?_) ?_
                · (try dsimp only at hSw); go_simp
                dsimp only [Act.put, List.setIfInBounds_toArray, List.set_cons_zero, List.set_cons_succ]
                refine wpAnyT_end ?_
                refine wpAnyH_listed #[true, true, true, true, true, true, true, true, true, true, true, true, true, true, true, true, true, true, true, true, true, true, true, true, true, true, true, true, true, true, true, true, true, true, true, true, true, true, true, true, true, true, true, true, true, true, true, true, true, true, true, true, true, true, true, true, true, true, true, false] (by kernel_rfl) ?_
                refine wpAnyT_begin [59] (by kernel_rfl) (by kernel_rfl) ?_
                refine wpAnyT_take (oi := ⟨some 7, Op.assign (Operand.tmp 68), 9, _, _, none⟩) (v := .string ⟨(encV z N2 S2 L2 (cutOf t2)).toArray⟩) rfl (fun _ _ _ h => h) (by rfl) (by assumption) (fun wS hSw => ?_) ?_
                · (try dsimp only at hSw); go_simp
                dsimp only [Act.put, List.setIfInBounds_toArray, List.set_cons_zero, List.set_cons_succ]
                refine wpAnyT_end ?_
                refine wpAnyH_listed #[true, true, true, true, true, true, true, true, true, true, true, true, true, true, true, true, true, true, true, true, true, true, true, true, true, true, true, true, true, true, true, true, true, true, true, true, true, true, true, true, true, true, true, true, true, true, true, true, true, true, true, true, true, true, true, true, true, true, true, true] (by kernel_rfl) ?_
                refine wpAnyH_done (by kernel_rfl) ?_ _
                go_wp2_with fail
                try dsimp only [Act.put, List.setIfInBounds_toArray, List.set_cons_zero, List.set_cons_succ]
                go_meet
                exact ⟨rfl, rfl, g141⟩
              · go_simp
                have hb144 : Grows u129 (u129.alloc (.cells #[.string ⟨(encI N2).toArray⟩, .string ⟨(encT S2).toArray⟩, .string ⟨(encL encI L2).toArray⟩, .string ⟨(encL encT (cutOf t2)).toArray⟩] 9)) := (Below.refl _ _).alloc (Nat.le_refl _) _
                have g148 := Grows.then g130 hb144
                have hk146 : ∀ w', Grows (u129.alloc (.cells #[.string ⟨(encI N2).toArray⟩, .string ⟨(encT S2).toArray⟩, .string ⟨(encL encI L2).toArray⟩, .string ⟨(encL encT (cutOf t2)).toArray⟩] 9)) w' → w'.cell? ⟨u129.heap.size, z, none⟩ = some (.string ⟨(encV z N2 S2 L2 (cutOf t2)).toArray⟩) ∧ w'.cell? ⟨P, 0, none⟩ = some (.int .u8 (n1 : Int)) ∧ w'.cell? ⟨P, 1, none⟩ = some (.int .i64 N1) ∧ w'.cell? ⟨P, 2, none⟩ = some (.string ⟨s1.toArray⟩) ∧ w'.cell? ⟨P, 3, none⟩ = some (.slice a1 l1.length k1) ∧ w'.cell? ⟨P, 4, none⟩ = some (.slice b1 t1.length j1) ∧ w'.cell? ⟨(P + 1), 1, none⟩ = some (.int .i64 N2) ∧ w'.cell? ⟨(P + 1), 2, none⟩ = some (.string ⟨s2.toArray⟩) ∧ w'.cell? ⟨(P + 1), 3, none⟩ = some (.slice a2 l2.length k2) ∧ w'.cell? ⟨(P + 1), 4, none⟩ = some (.slice b2 t2.length j2) ∧ Grows w1 w' := fun w' q => ⟨(q.cell (alloc_lt _ _)).trans (kind_cell hz4 (heap_alloc_new _ _)), hk.out _ (Grows.then g148 q)⟩
                replace hk146 := Lib.hid hk146
                have m147 : Grows (u129.alloc (.cells #[.string ⟨(encI N2).toArray⟩, .string ⟨(encT S2).toArray⟩, .string ⟨(encL encI L2).toArray⟩, .string ⟨(encL encT (cutOf t2)).toArray⟩] 9)) (u129.alloc (.cells #[.string ⟨(encI N2).toArray⟩, .string ⟨(encT S2).toArray⟩, .string ⟨(encL encI L2).toArray⟩, .string ⟨(encL encT (cutOf t2)).toArray⟩] 9)) := Below.refl _ _
                clear hHeld
                refine hK.out _ _ (hk.out _ g148) (fun _ => ?_)
                clear hK K
                try dsimp only [Act.put, List.setIfInBounds_toArray, List.set_cons_zero, List.set_cons_succ]
                refine wpAnyH_listed #[true, true, true, true, true, true, true, true, true, true, true, true, true, true, true, true, true, true, true, true, true, true, true, false, true, true, true, false, false, true, true, true, true, true, true, true, true, true, true, true, true, true, true, true, true, true, true, true, true, true, true, true, true, true, true, true, false, false, false, false] (by kernel_rfl) ?_
                refine wpAnyH_more (S := fun w' => w'.cell? ⟨P, 0, none⟩ = some (.int .u8 (n1 : Int)) ∧ w'.cell? ⟨P, 1, none⟩ = some (.int .i64 N1) ∧ w'.cell? ⟨P, 2, none⟩ = some (.string ⟨s1.toArray⟩) ∧ w'.cell? ⟨P, 3, none⟩ = some (.slice a1 l1.length k1) ∧ w'.cell? ⟨P, 4, none⟩ = some (.slice b1 t1.length j1) ∧ w'.cell? ⟨(P + 1), 1, none⟩ = some (.int .i64 N2) ∧ w'.cell? ⟨(P + 1), 2, none⟩ = some (.string ⟨s2.toArray⟩) ∧ w'.cell? ⟨(P + 1), 3, none⟩ = some (.slice a2 l2.length k2) ∧ w'.cell? ⟨(P + 1), 4, none⟩ = some (.slice b2 t2.length j2) ∧ Grows w1 w') (T := fun w' => w'.cell? ⟨u129.heap.size, z, none⟩ = some (.string ⟨(encV z N2 S2 L2 (cutOf t2)).toArray⟩) ∧ w'.cell? ⟨P, 0, none⟩ = some (.int .u8 (n1 : Int)) ∧ w'.cell? ⟨P, 1, none⟩ = some (.int .i64 N1) ∧ w'.cell? ⟨P, 2, none⟩ = some (.string ⟨s1.toArray⟩) ∧ w'.cell? ⟨P, 3, none⟩ = some (.slice a1 l1.length k1) ∧ w'.cell? ⟨P, 4, none⟩ = some (.slice b1 t1.length j1) ∧ w'.cell? ⟨(P + 1), 1, none⟩ = some (.int .i64 N2) ∧ w'.cell? ⟨(P + 1), 2, none⟩ = some (.string ⟨s2.toArray⟩) ∧ w'.cell? ⟨(P + 1), 3, none⟩ = some (.slice a2 l2.length k2) ∧ w'.cell? ⟨(P + 1), 4, none⟩ = some (.slice b2 t2.length j2) ∧ Grows w1 w') (fun _ q => q.2) _ _ _ _ ?_
                have hHeld := hk146.out _ m147
                clear hb144
                generalize (u129.alloc (.cells #[.string ⟨(encI N2).toArray⟩, .string ⟨(encT S2).toArray⟩, .string ⟨(encL encI L2).toArray⟩, .string ⟨(encL encT (cutOf t2)).toArray⟩] 9)) = W149 at *
                refine wpAnyT_begin [56, 57] (by kernel_rfl) (by kernel_rfl) ?_
                refine wpAnyT_take (oi := ⟨some 67, Op.indexAddr 23 (Operand.tmp 63) (Operand.tmp 66), 0, _, _, none⟩) (v := .pointer (some ⟨u129.heap.size, z, none⟩)) rfl (fun _ _ _ h => h) (by rfl) (by assumption) (fun wS hSw => ?_) ?_
                · (try dsimp only at hSw); go_simp
                dsimp only [Act.put, List.setIfInBounds_toArray, List.set_cons_zero, List.set_cons_succ]
                refine wpAnyT_take (oi := ⟨some 68, Op.load 9 (Operand.tmp 67), 9, _, _, none⟩) (v := .string ⟨(encV z N2 S2 L2 (cutOf t2)).toArray⟩) rfl (fun _ _ _ h => h) (by rfl) (by assumption) (fun wS hSw => ?_) ?_
                · (try dsimp only at hSw); go_simp
                dsimp only [Act.put, List.setIfInBounds_toArray, List.set_cons_zero, List.set_cons_succ]
                refine wpAnyT_end ?_
                refine wpAnyH_listed #[true, true, true, true, true, true, true, true, true, true, true, true, true, true, true, true, true, true, true, true, true, true, true, false, true, true, true, false, false, true, true, true, true, true, true, true, true, true, true, true, true, true, true, true, true, true, true, true, true, true, true, true, true, true, true, true, true, true, false, false] (by kernel_rfl) ?_
                refine wpAnyH_ready (rs := [23]) (by kernel_rfl) (by simp) ?_
                refine AllReadyH.cons (o := ⟨some 34, Op.buildSlice 23 4 #[(0, Operand.tmp 13), (1, Operand.tmp 21), (2, Operand.tmp 29), (3, Operand.tmp 33)], 23, _, _, none⟩) rfl (fun K hK => ?_) AllReadyH.nil
                go_simp
                have hb150 : Grows W149 (W149.alloc (.cells #[.string ⟨(encI N1).toArray⟩, .string ⟨(encT S1).toArray⟩, .string ⟨(encL encI L1).toArray⟩, .string ⟨(encL encT (cutOf t1)).toArray⟩] 9)) := (Below.refl _ _).alloc (Nat.le_refl _) _
                have g154 := Grows.then g148 hb150
                have m155 := Grows.then m147 hb150
                have hk152 : ∀ w', Grows (W149.alloc (.cells #[.string ⟨(encI N1).toArray⟩, .string ⟨(encT S1).toArray⟩, .string ⟨(encL encI L1).toArray⟩, .string ⟨(encL encT (cutOf t1)).toArray⟩] 9)) w' → w'.cell? ⟨W149.heap.size, z, none⟩ = some (.string ⟨(encV z N1 S1 L1 (cutOf t1)).toArray⟩) ∧ w'.cell? ⟨u129.heap.size, z, none⟩ = some (.string ⟨(encV z N2 S2 L2 (cutOf t2)).toArray⟩) ∧ w'.cell? ⟨P, 0, none⟩ = some (.int .u8 (n1 : Int)) ∧ w'.cell? ⟨P, 1, none⟩ = some (.int .i64 N1) ∧ w'.cell? ⟨P, 2, none⟩ = some (.string ⟨s1.toArray⟩) ∧ w'.cell? ⟨P, 3, none⟩ = some (.slice a1 l1.length k1) ∧ w'.cell? ⟨P, 4, none⟩ = some (.slice b1 t1.length j1) ∧ w'.cell? ⟨(P + 1), 1, none⟩ = some (.int .i64 N2) ∧ w'.cell? ⟨(P + 1), 2, none⟩ = some (.string ⟨s2.toArray⟩) ∧ w'.cell? ⟨(P + 1), 3, none⟩ = some (.slice a2 l2.length k2) ∧ w'.cell? ⟨(P + 1), 4, none⟩ = some (.slice b2 t2.length j2) ∧ Grows w1 w' := fun w' q => ⟨(q.cell (alloc_lt _ _)).trans (kind_cell hz4 (heap_alloc_new _ _)), hk146.out _ (Grows.then m155 q)⟩
                replace hk152 := Lib.hid hk152
                have m153 : Grows (W149.alloc (.cells #[.string ⟨(encI N1).toArray⟩, .string ⟨(encT S1).toArray⟩, .string ⟨(encL encI L1).toArray⟩, .string ⟨(encL encT (cutOf t1)).toArray⟩] 9)) (W149.alloc (.cells #[.string ⟨(encI N1).toArray⟩, .string ⟨(encT S1).toArray⟩, .string ⟨(encL encI L1).toArray⟩, .string ⟨(encL encT (cutOf t1)).toArray⟩] 9)) := Below.refl _ _
                clear hHeld
                refine hK.out _ _ (hk146.out _ m155) (fun _ => ?_)
                clear hK K
                try dsimp only [Act.put, List.setIfInBounds_toArray, List.set_cons_zero, List.set_cons_succ]
                refine wpAnyH_listed #[true, true, true, true, true, true, true, true, true, true, true, true, true, true, true, true, true, true, true, true, true, true, true, true, true, true, true, false, false, true, true, true, true, true, true, true, true, true, true, true, true, true, true, true, true, true, true, true, true, true, true, true, true, true, true, true, true, true, false, false] (by kernel_rfl) ?_
                refine wpAnyH_more (S := fun w' => w'.cell? ⟨u129.heap.size, z, none⟩ = some (.string ⟨(encV z N2 S2 L2 (cutOf t2)).toArray⟩) ∧ w'.cell? ⟨P, 0, none⟩ = some (.int .u8 (n1 : Int)) ∧ w'.cell? ⟨P, 1, none⟩ = some (.int .i64 N1) ∧ w'.cell? ⟨P, 2, none⟩ = some (.string ⟨s1.toArray⟩) ∧ w'.cell? ⟨P, 3, none⟩ = some (.slice a1 l1.length k1) ∧ w'.cell? ⟨P, 4, none⟩ = some (.slice b1 t1.length j1) ∧ w'.cell? ⟨(P + 1), 1, none⟩ = some (.int .i64 N2) ∧ w'.cell? ⟨(P + 1), 2, none⟩ = some (.string ⟨s2.toArray⟩) ∧ w'.cell? ⟨(P + 1), 3, none⟩ = some (.slice a2 l2.length k2) ∧ w'.cell? ⟨(P + 1), 4, none⟩ = some (.slice b2 t2.length j2) ∧ Grows w1 w') (T := fun w' => w'.cell? ⟨W149.heap.size, z, none⟩ = some (.string ⟨(encV z N1 S1 L1 (cutOf t1)).toArray⟩) ∧ w'.cell? ⟨u129.heap.size, z, none⟩ = some (.string ⟨(encV z N2 S2 L2 (cutOf t2)).toArray⟩) ∧ w'.cell? ⟨P, 0, none⟩ = some (.int .u8 (n1 : Int)) ∧ w'.cell? ⟨P, 1, none⟩ = some (.int .i64 N1) ∧ w'.cell? ⟨P, 2, none⟩ = some (.string ⟨s1.toArray⟩) ∧ w'.cell? ⟨P, 3, none⟩ = some (.slice a1 l1.length k1) ∧ w'.cell? ⟨P, 4, none⟩ = some (.slice b1 t1.length j1) ∧ w'.cell? ⟨(P + 1), 1, none⟩ = some (.int .i64 N2) ∧ w'.cell? ⟨(P + 1), 2, none⟩ = some (.string ⟨s2.toArray⟩) ∧ w'.cell? ⟨(P + 1), 3, none⟩ = some (.slice a2 l2.length k2) ∧ w'.cell? ⟨(P + 1), 4, none⟩ = some (.slice b2 t2.length j2) ∧ Grows w1 w') (fun _ q => q.2) _ _ _ _ ?_
                have hHeld := hk152.out _ m153
                clear hb150
                generalize (W149.alloc (.cells #[.string ⟨(encI N1).toArray⟩, .string ⟨(encT S1).toArray⟩, .string ⟨(encL encI L1).toArray⟩, .string ⟨(encL encT (cutOf t1)).toArray⟩] 9)) = W156 at *
                refine wpAnyT_begin [27, 28] (by kernel_rfl) (by kernel_rfl) ?_
                refine wpAnyT_take (oi := ⟨some 38, Op.indexAddr 23 (Operand.tmp 34) (Operand.tmp 37), 0, _, _, none⟩) (v := .pointer (some ⟨W149.heap.size, z, none⟩)) rfl (fun _ _ _ h => h) (by rfl) (by assumption) (fun wS hSw => ?_) ?_
                · (try dsimp only at hSw); go_simp
                dsimp only [Act.put, List.setIfInBounds_toArray, List.set_cons_zero, List.set_cons_succ]
                refine wpAnyT_take (oi := ⟨some 39, Op.load 9 (Operand.tmp 38), 9, _, _, none⟩) (v := .string ⟨(encV z N1 S1 L1 (cutOf t1)).toArray⟩) rfl (fun _ _ _ h => h) (by rfl) (by assumption) (fun wS hSw => ?_) ?_
                · (try dsimp only at hSw); go_simp
                dsimp only [Act.put, List.setIfInBounds_toArray, List.set_cons_zero, List.set_cons_succ]
                refine wpAnyT_end ?_
                refine wpAnyH_listed #[true, true, true, true, true, true, true, true, true, true, true, true, true, true, true, true, true, true, true, true, true, true, true, true, true, true, true, true, true, true, true, true, true, true, true, true, true, true, true, true, true, true, true, true, true, true, true, true, true, true, true, true, true, true, true, true, true, true, false, false] (by kernel_rfl) ?_
                refine wpAnyT_begin [58, 59] (by kernel_rfl) (by kernel_rfl) ?_
                refine wpAnyT_take (oi := ⟨some 6, Op.assign (Operand.tmp 39), 9, _, _, none⟩) (v := .string ⟨(encV z N1 S1 L1 (cutOf t1)).toArray⟩) rfl (fun _ _ _ h => h) (by rfl) (by assumption) (fun wS hSw => ?_) ?_
                · (try dsimp only at hSw); go_simp
                dsimp only [Act.put, List.setIfInBounds_toArray, List.set_cons_zero, List.set_cons_succ]
                refine wpAnyT_take (oi := ⟨some 7, Op.assign (Operand.tmp 68), 9, _, _, none⟩) (v := .string ⟨(encV z N2 S2 L2 (cutOf t2)).toArray⟩) rfl (fun _ _ _ h => h) (by rfl) (by assumption) (fun wS hSw => ?_) ?_
                · (try dsimp only at hSw); go_simp
                dsimp only [Act.put, List.setIfInBounds_toArray, List.set_cons_zero, List.set_cons_succ]
                refine wpAnyT_end ?_
                refine wpAnyH_listed #[true, true, true, true, true, true, true, true, true, true, true, true, true, true, true, true, true, true, true, true, true, true, true, true, true, true, true, true, true, true, true, true, true, true, true, true, true, true, true, true, true, true, true, true, true, true, true, true, true, true, true, true, true, true, true, true, true, true, true, true] (by kernel_rfl) ?_
                refine wpAnyH_done (by kernel_rfl) ?_ _
                go_wp2_with fail
                try dsimp only [Act.put, List.setIfInBounds_toArray, List.set_cons_zero, List.set_cons_succ]
                go_meet
                exact ⟨rfl, rfl, g154⟩
  case rest =>
    obtain ⟨rfl, rfl, gx⟩ := hcut
    have hcm1 : ∀ x ∈ cutOf t1, InT x := fun x hx => by have := cutOf_mem hx; unfold InT; omega
    have hcm2 : ∀ x ∈ cutOf t2, InT x := fun x hx => by have := cutOf_mem hx; unfold InT; omega
    have hlen1 := encV_le z hN1 hS1 HL1.out hL201 hcb21
    have hlen2 := encV_le z hN2 hS2 HL2.out hL202 hcb22
    obtain ⟨B, e1, e2, e3⟩ := same_key z hz4 hN1 hN2 (show InT S1 by unfold InT; omega) (show InT S2 by unfold InT; omega) HL1.out HL2.out hcm1 hcm2
    replace e3 := Lib.hid e3
    obtain ⟨c0, c1, c2, c3, c4, d1, d2, d3, d4, -⟩ := hk.out _ gx
    generalize encV z N1 S1 L1 (cutOf t1) = X1 at *
    generalize encV z N2 S2 L2 (cutOf t2) = X2 at *
    have f1 : min (X1.length : Int) (X2.length : Int) = ((min X1.length X2.length : Nat) : Int) := min_nat _ _
    have f2 := extract_take X1 (min X1.length X2.length)
    have f3 := extract_take X2 (min X1.length X2.length)
    have f4 : min X1.length X2.length ≤ X1.length := Nat.min_le_left _ _
    have f5 : min X1.length X2.length ≤ X2.length := Nat.min_le_right _ _
    rw [Nat.min_eq_right f4] at f2
    rw [Nat.min_eq_right f5] at f3
    generalize X1.take (min X1.length X2.length) = F1 at *
    generalize X2.take (min X1.length X2.length) = F2 at *
    generalize min X1.length X2.length = mm at *
    have f6 := size_of_list X1
    have f7 := size_of_list X2
    have f8 : (mm : Int) ≤ (X1.length : Int) := by omega
    have f9 : (mm : Int) ≤ (X2.length : Int) := by omega
    clear hcm1 hcm2 hSb1 hLb1 hSb2 hLb2
    have hzz : z = 0 ∨ z = 1 ∨ z = 2 ∨ z = 3 := by omega
    rcases hzz with rfl | rfl | rfl | rfl
    · have e4 := e3.out.1 rfl
      clear h31' h32' h41 h42 e3
      cases B
      · go_wp2_with fail
        go_quiet (fail)
        go_wp2_with fail
        go_ret
        exact ⟨rfl, g0.then (Grows.then gx (grows_drewN _ _))⟩
      · go_wp2_with fail
        go_quiet (fail)
        go_wp2_with fail
        go_ret
        exact ⟨rfl, g0.then (Grows.then gx (grows_drewN _ _))⟩
    · have e4 := e3.out.2.1 rfl
      clear h31' h32' h41 h42 e3
      go_wp2_with fail
      have gd : Grows w1 wc.drew := Grows.then gx (Below.refl _ _).drew
      refine wp_region_held_drew (S := (fun w' => w'.cell? ⟨P, 0, none⟩ = some (.int .u8 (n1 : Int)) ∧ w'.cell? ⟨P, 1, none⟩ = some (.int .i64 N1) ∧ w'.cell? ⟨P, 2, none⟩ = some (.string ⟨s1.toArray⟩) ∧ w'.cell? ⟨P, 3, none⟩ = some (.slice a1 l1.length k1) ∧ w'.cell? ⟨P, 4, none⟩ = some (.slice b1 t1.length j1) ∧ w'.cell? ⟨(P + 1), 1, none⟩ = some (.int .i64 N2) ∧ w'.cell? ⟨(P + 1), 2, none⟩ = some (.string ⟨s2.toArray⟩) ∧ w'.cell? ⟨(P + 1), 3, none⟩ = some (.slice a2 l2.length k2) ∧ w'.cell? ⟨(P + 1), 4, none⟩ = some (.slice b2 t2.length j2) ∧ Grows w1 w')) (by kernel_rfl) (hk.out _ gd) (fun hHeld => ?_)
      refine wpAnyH_listed #[false, false, false, false, false, false, false, false, false, false, false, false, false, false, false, false] (by kernel_rfl) ?_
      refine wpAnyT_begin [0, 1, 2, 3, 4, 5] (by kernel_rfl) (by kernel_rfl) ?_
      refine wpAnyT_take (oi := ⟨some 81, Op.fieldAddr 45 (Operand.tmp 2) 2, 0, _, _, none⟩) (v := .pointer (some ⟨P, 2, none⟩)) rfl (fun _ _ _ h => h) (by rfl) (by assumption) (fun wS hSw => ?_) ?_
      · (try dsimp only at hSw); go_simp
      dsimp only [Act.put, List.setIfInBounds_toArray, List.set_cons_zero, List.set_cons_succ]
      refine wpAnyT_take (oi := ⟨some 82, Op.load 9 (Operand.tmp 81), 9, _, _, none⟩) (v := .string ⟨s1.toArray⟩) rfl (fun _ _ _ h => h) (by rfl) (by assumption) (fun wS hSw => ?_) ?_
      · (try dsimp only at hSw); go_simp
      dsimp only [Act.put, List.setIfInBounds_toArray, List.set_cons_zero, List.set_cons_succ]
      refine wpAnyT_take (oi := ⟨some 83, Op.fieldAddr 45 (Operand.tmp 2) 2, 0, _, _, none⟩) (v := .pointer (some ⟨P, 2, none⟩)) rfl (fun _ _ _ h => h) (by rfl) (by assumption) (fun wS hSw => ?_) ?_
      · (try dsimp only at hSw); go_simp
      dsimp only [Act.put, List.setIfInBounds_toArray, List.set_cons_zero, List.set_cons_succ]
      refine wpAnyT_take (oi := ⟨some 84, Op.load 9 (Operand.tmp 83), 9, _, _, none⟩) (v := .string ⟨s1.toArray⟩) rfl (fun _ _ _ h => h) (by rfl) (by assumption) (fun wS hSw => ?_) ?_
      · (try dsimp only at hSw); go_simp
      dsimp only [Act.put, List.setIfInBounds_toArray, List.set_cons_zero, List.set_cons_succ]
      refine wpAnyT_take (oi := ⟨some 85, Op.call { callee := Callee.builtin Builtin.len, args := #[Operand.tmp 84], argTypes := #[9] }, 3, _, _, none⟩) (v := .int .i64 s1.length) rfl (fun _ _ _ h => h) (by rfl) (by assumption) (fun wS hSw => ?_) ?_
      · (try dsimp only at hSw); go_simp
      dsimp only [Act.put, List.setIfInBounds_toArray, List.set_cons_zero, List.set_cons_succ]
      refine wpAnyT_take (oi := ⟨some 86, Op.call { callee := Callee.builtin Builtin.min, args := #[Operand.tmp 85, Operand.const (Value.int IntKind.i64 100)], argTypes := #[3, 3] }, 3, _, _, none⟩) (v := .int .i64 (min s1.length 100 : Nat)) rfl (fun _ _ _ h => h) (by rfl) (by assumption) (fun wS hSw => ?_) ?_
      · (try dsimp only at hSw); go_simp
      dsimp only [Act.put, List.setIfInBounds_toArray, List.set_cons_zero, List.set_cons_succ]
      refine wpAnyT_end ?_
      refine wpAnyH_listed #[true, true, true, true, true, true, false, false, false, false, false, false, false, false, false, false] (by kernel_rfl) ?_
      refine wpAnyT_begin [6, 7, 8, 9, 10, 11] (by kernel_rfl) (by kernel_rfl) ?_
      refine wpAnyT_take (oi := ⟨some 87, Op.slice 9 (Operand.tmp 82) none (some (Operand.tmp 86)) none, 9, _, _, none⟩) (v := .string ⟨S1.toArray⟩) rfl (fun _ _ _ h => h) (by rfl) (by assumption) (fun wS hSw => ?_) ?_
      · (try dsimp only at hSw); go_simp
      dsimp only [Act.put, List.setIfInBounds_toArray, List.set_cons_zero, List.set_cons_succ]
      refine wpAnyT_take (oi := ⟨some 88, Op.fieldAddr 45 (Operand.tmp 3) 2, 0, _, _, none⟩) (v := .pointer (some ⟨P + 1, 2, none⟩)) rfl (fun _ _ _ h => h) (by rfl) (by assumption) (fun wS hSw => ?_) ?_
      · (try dsimp only at hSw); go_simp
      dsimp only [Act.put, List.setIfInBounds_toArray, List.set_cons_zero, List.set_cons_succ]
      refine wpAnyT_take (oi := ⟨some 89, Op.load 9 (Operand.tmp 88), 9, _, _, none⟩) (v := .string ⟨s2.toArray⟩) rfl (fun _ _ _ h => h) (by rfl) (by assumption) (fun wS hSw => ?_) ?_
      · (try dsimp only at hSw); go_simp
      dsimp only [Act.put, List.setIfInBounds_toArray, List.set_cons_zero, List.set_cons_succ]
      refine wpAnyT_take (oi := ⟨some 90, Op.fieldAddr 45 (Operand.tmp 3) 2, 0, _, _, none⟩) (v := .pointer (some ⟨P + 1, 2, none⟩)) rfl (fun _ _ _ h => h) (by rfl) (by assumption) (fun wS hSw => ?_) ?_
      · (try dsimp only at hSw); go_simp
      dsimp only [Act.put, List.setIfInBounds_toArray, List.set_cons_zero, List.set_cons_succ]
      refine wpAnyT_take (oi := ⟨some 91, Op.load 9 (Operand.tmp 90), 9, _, _, none⟩) (v := .string ⟨s2.toArray⟩) rfl (fun _ _ _ h => h) (by rfl) (by assumption) (fun wS hSw => ?_) ?_
      · (try dsimp only at hSw); go_simp
      dsimp only [Act.put, List.setIfInBounds_toArray, List.set_cons_zero, List.set_cons_succ]
      refine wpAnyT_take (oi := ⟨some 92, Op.call { callee := Callee.builtin Builtin.len, args := #[Operand.tmp 91], argTypes := #[9] }, 3, _, _, none⟩) (v := .int .i64 s2.length) rfl (fun _ _ _ h => h) (by rfl) (by assumption) (fun wS hSw => ?_) ?_
      · (try dsimp only at hSw); go_simp
      dsimp only [Act.put, List.setIfInBounds_toArray, List.set_cons_zero, List.set_cons_succ]
      refine wpAnyT_end ?_
      refine wpAnyH_listed #[true, true, true, true, true, true, true, true, true, true, true, true, false, false, false, false] (by kernel_rfl) ?_
      refine wpAnyT_begin [12, 13, 14, 15] (by kernel_rfl) (by kernel_rfl) ?_
      refine wpAnyT_take (oi := ⟨some 93, Op.call { callee := Callee.builtin Builtin.min, args := #[Operand.tmp 92, Operand.const (Value.int IntKind.i64 100)], argTypes := #[3, 3] }, 3, _, _, none⟩) (v := .int .i64 (min s2.length 100 : Nat)) rfl (fun _ _ _ h => h) (by rfl) (by assumption) (fun wS hSw => ?_) ?_
      · (try dsimp only at hSw); go_simp
      dsimp only [Act.put, List.setIfInBounds_toArray, List.set_cons_zero, List.set_cons_succ]
      refine wpAnyT_take (oi := ⟨some 94, Op.slice 9 (Operand.tmp 89) none (some (Operand.tmp 93)) none, 9, _, _, none⟩) (v := .string ⟨S2.toArray⟩) rfl (fun _ _ _ h => h) (by rfl) (by assumption) (fun wS hSw => ?_) ?_
      · (try dsimp only at hSw); go_simp
      dsimp only [Act.put, List.setIfInBounds_toArray, List.set_cons_zero, List.set_cons_succ]
      refine wpAnyT_take (oi := ⟨some 95, Op.binOp BinOp.eql 9 (Operand.tmp 87) (Operand.tmp 94) 9, 4, _, _, none⟩) (v := .bool B) rfl (fun _ _ _ h => h) (by rfl) (by assumption) (fun wS hSw => ?_) ?_
      · (try dsimp only at hSw); go_simp
      dsimp only [Act.put, List.setIfInBounds_toArray, List.set_cons_zero, List.set_cons_succ]
      refine wpAnyT_take (oi := ⟨some 8, Op.assign (Operand.tmp 95), 4, _, _, none⟩) (v := .bool B) rfl (fun _ _ _ h => h) (by rfl) (by assumption) (fun wS hSw => ?_) ?_
      · (try dsimp only at hSw); go_simp
      dsimp only [Act.put, List.setIfInBounds_toArray, List.set_cons_zero, List.set_cons_succ]
      refine wpAnyT_end ?_
      refine wpAnyH_listed #[true, true, true, true, true, true, true, true, true, true, true, true, true, true, true, true] (by kernel_rfl) ?_
      refine wpAnyH_done (by kernel_rfl) ?_ _
      clear hHeld
      cases B
      · go_wp2_with fail
        go_quiet (fail)
        go_wp2_with fail
        go_ret
        exact ⟨rfl, g0.then (Grows.then gd (grows_drewN _ _))⟩
      · go_wp2_with fail
        go_quiet (fail)
        go_wp2_with fail
        go_ret
        exact ⟨rfl, g0.then (Grows.then gd (grows_drewN _ _))⟩
    · have e4 := e3.out.2.2.1 rfl
      clear h41 h42 e3
      replace e4 := Lib.hid e4
      go_wp2_with fail
      have gd : Grows w1 wc.drew := Grows.then gx (Below.refl _ _).drew
      refine wp_region_held_drew (S := (fun w' => w'.cell? ⟨P, 0, none⟩ = some (.int .u8 (n1 : Int)) ∧ w'.cell? ⟨P, 1, none⟩ = some (.int .i64 N1) ∧ w'.cell? ⟨P, 2, none⟩ = some (.string ⟨s1.toArray⟩) ∧ w'.cell? ⟨P, 3, none⟩ = some (.slice a1 l1.length k1) ∧ w'.cell? ⟨P, 4, none⟩ = some (.slice b1 t1.length j1) ∧ w'.cell? ⟨(P + 1), 1, none⟩ = some (.int .i64 N2) ∧ w'.cell? ⟨(P + 1), 2, none⟩ = some (.string ⟨s2.toArray⟩) ∧ w'.cell? ⟨(P + 1), 3, none⟩ = some (.slice a2 l2.length k2) ∧ w'.cell? ⟨(P + 1), 4, none⟩ = some (.slice b2 t2.length j2) ∧ Grows w1 w')) (by kernel_rfl) (hk.out _ gd) (fun hHeld => ?_)
      refine wpAnyH_listed #[false, false, false, false, false, false, false, false, false, false, false, false, false, false, false, false] (by kernel_rfl) ?_
      refine wpAnyT_begin [0, 1, 2, 3, 4, 5] (by kernel_rfl) (by kernel_rfl) ?_
      refine wpAnyT_take (oi := ⟨some 98, Op.fieldAddr 45 (Operand.tmp 2) 3, 0, _, _, none⟩) (v := .pointer (some ⟨P, 3, none⟩)) rfl (fun _ _ _ h => h) (by rfl) (by assumption) (fun wS hSw => ?_) ?_
      · (try dsimp only at hSw); go_simp
      dsimp only [Act.put, List.setIfInBounds_toArray, List.set_cons_zero, List.set_cons_succ]
      refine wpAnyT_take (oi := ⟨some 99, Op.load 22 (Operand.tmp 98), 22, _, _, none⟩) (v := .slice a1 l1.length k1) rfl (fun _ _ _ h => h) (by rfl) (by assumption) (fun wS hSw => ?_) ?_
      · (try dsimp only at hSw); go_simp
      dsimp only [Act.put, List.setIfInBounds_toArray, List.set_cons_zero, List.set_cons_succ]
      refine wpAnyT_take (oi := ⟨some 100, Op.fieldAddr 45 (Operand.tmp 2) 3, 0, _, _, none⟩) (v := .pointer (some ⟨P, 3, none⟩)) rfl (fun _ _ _ h => h) (by rfl) (by assumption) (fun wS hSw => ?_) ?_
      · (try dsimp only at hSw); go_simp
      dsimp only [Act.put, List.setIfInBounds_toArray, List.set_cons_zero, List.set_cons_succ]
      refine wpAnyT_take (oi := ⟨some 101, Op.load 22 (Operand.tmp 100), 22, _, _, none⟩) (v := .slice a1 l1.length k1) rfl (fun _ _ _ h => h) (by rfl) (by assumption) (fun wS hSw => ?_) ?_
      · (try dsimp only at hSw); go_simp
      dsimp only [Act.put, List.setIfInBounds_toArray, List.set_cons_zero, List.set_cons_succ]
      refine wpAnyT_take (oi := ⟨some 102, Op.call { callee := Callee.builtin Builtin.len, args := #[Operand.tmp 101], argTypes := #[22] }, 3, _, _, none⟩) (v := .int .i64 l1.length) rfl (fun _ _ _ h => h) (by rfl) (by assumption) (fun wS hSw => ?_) ?_
      · (try dsimp only at hSw); go_simp
      dsimp only [Act.put, List.setIfInBounds_toArray, List.set_cons_zero, List.set_cons_succ]
      refine wpAnyT_take (oi := ⟨some 103, Op.call { callee := Callee.builtin Builtin.min, args := #[Operand.tmp 102, Operand.const (Value.int IntKind.i64 20)], argTypes := #[3, 3] }, 3, _, _, none⟩) (v := .int .i64 (L1.length : Nat)) rfl (fun _ _ _ h => h) (by rfl) (by assumption) (fun wS hSw => ?_) ?_
      · (try dsimp only at hSw); go_simp
      dsimp only [Act.put, List.setIfInBounds_toArray, List.set_cons_zero, List.set_cons_succ]
      refine wpAnyT_end ?_
      refine wpAnyH_listed #[true, true, true, true, true, true, false, false, false, false, false, false, false, false, false, false] (by kernel_rfl) ?_
      refine wpAnyT_begin [6, 7, 8, 9, 10, 11] (by kernel_rfl) (by kernel_rfl) ?_
      refine wpAnyT_take (oi := ⟨some 104, Op.slice 22 (Operand.tmp 99) none (some (Operand.tmp 103)) none, 22, _, _, none⟩) (v := .slice a1 L1.length k1) rfl (fun _ _ _ h => h) (by rfl) (by assumption) (fun wS hSw => ?_) ?_
      · (try dsimp only at hSw); go_simp
      dsimp only [Act.put, List.setIfInBounds_toArray, List.set_cons_zero, List.set_cons_succ]
      refine wpAnyT_take (oi := ⟨some 105, Op.fieldAddr 45 (Operand.tmp 3) 3, 0, _, _, none⟩) (v := .pointer (some ⟨P + 1, 3, none⟩)) rfl (fun _ _ _ h => h) (by rfl) (by assumption) (fun wS hSw => ?_) ?_
      · (try dsimp only at hSw); go_simp
      dsimp only [Act.put, List.setIfInBounds_toArray, List.set_cons_zero, List.set_cons_succ]
      refine wpAnyT_take (oi := ⟨some 106, Op.load 22 (Operand.tmp 105), 22, _, _, none⟩) (v := .slice a2 l2.length k2) rfl (fun _ _ _ h => h) (by rfl) (by assumption) (fun wS hSw => ?_) ?_
      · (try dsimp only at hSw); go_simp
      dsimp only [Act.put, List.setIfInBounds_toArray, List.set_cons_zero, List.set_cons_succ]
      refine wpAnyT_take (oi := ⟨some 107, Op.fieldAddr 45 (Operand.tmp 3) 3, 0, _, _, none⟩) (v := .pointer (some ⟨P + 1, 3, none⟩)) rfl (fun _ _ _ h => h) (by rfl) (by assumption) (fun wS hSw => ?_) ?_
      · (try dsimp only at hSw); go_simp
      dsimp only [Act.put, List.setIfInBounds_toArray, List.set_cons_zero, List.set_cons_succ]
      refine wpAnyT_take (oi := ⟨some 108, Op.load 22 (Operand.tmp 107), 22, _, _, none⟩) (v := .slice a2 l2.length k2) rfl (fun _ _ _ h => h) (by rfl) (by assumption) (fun wS hSw => ?_) ?_
      · (try dsimp only at hSw); go_simp
      dsimp only [Act.put, List.setIfInBounds_toArray, List.set_cons_zero, List.set_cons_succ]
      refine wpAnyT_take (oi := ⟨some 109, Op.call { callee := Callee.builtin Builtin.len, args := #[Operand.tmp 108], argTypes := #[22] }, 3, _, _, none⟩) (v := .int .i64 l2.length) rfl (fun _ _ _ h => h) (by rfl) (by assumption) (fun wS hSw => ?_) ?_
      · (try dsimp only at hSw); go_simp
      dsimp only [Act.put, List.setIfInBounds_toArray, List.set_cons_zero, List.set_cons_succ]
      refine wpAnyT_end ?_
      refine wpAnyH_listed #[true, true, true, true, true, true, true, true, true, true, true, true, false, false, false, false] (by kernel_rfl) ?_
      refine wpAnyT_begin [12, 13] (by kernel_rfl) (by kernel_rfl) ?_
      refine wpAnyT_take (oi := ⟨some 110, Op.call { callee := Callee.builtin Builtin.min, args := #[Operand.tmp 109, Operand.const (Value.int IntKind.i64 20)], argTypes := #[3, 3] }, 3, _, _, none⟩) (v := .int .i64 (L2.length : Nat)) rfl (fun _ _ _ h => h) (by rfl) (by assumption) (fun wS hSw => ?_) ?_
      · (try dsimp only at hSw); go_simp
      dsimp only [Act.put, List.setIfInBounds_toArray, List.set_cons_zero, List.set_cons_succ]
      refine wpAnyT_take (oi := ⟨some 111, Op.slice 22 (Operand.tmp 106) none (some (Operand.tmp 110)) none, 22, _, _, none⟩) (v := .slice a2 L2.length k2) rfl (fun _ _ _ h => h) (by rfl) (by assumption) (fun wS hSw => ?_) ?_
      · (try dsimp only at hSw); go_simp
      dsimp only [Act.put, List.setIfInBounds_toArray, List.set_cons_zero, List.set_cons_succ]
      refine wpAnyT_end ?_
      refine wpAnyH_listed #[true, true, true, true, true, true, true, true, true, true, true, true, true, true, false, false] (by kernel_rfl) ?_
      refine wpAnyH_ready (rs := [14]) (by kernel_rfl) (by simp) ?_
      refine AllReadyH.cons (o := ⟨some 112, Op.call { callee := Callee.value (Operand.func 26), args := #[Operand.tmp 104, Operand.tmp 111], argTypes := #[22, 22] }, 4, _, _, none⟩) rfl (fun K hK => ?_) AllReadyH.nil
      go_simp
      go_at_call 26
      refine (same_ints _ _ L1 L2 _ (h31'.later gd) (h32'.later gd) B e4.out).mono ?_
      rintro e wq ⟨rfl, hx⟩
      have gq := Grows.then gd hx
      clear hx hHeld
      go_wp2_with fail
      refine hK.out _ _ (hk.out _ gq) (fun hHeld => ?_)
      clear hK K
      try dsimp only [Act.put, List.setIfInBounds_toArray, List.set_cons_zero, List.set_cons_succ]
      refine wpAnyH_listed #[true, true, true, true, true, true, true, true, true, true, true, true, true, true, true, false] (by kernel_rfl) ?_
      refine wpAnyT_begin [15] (by kernel_rfl) (by kernel_rfl) ?_
      refine wpAnyT_take (oi := ⟨some 8, Op.assign (Operand.tmp 112), 4, _, _, none⟩) (v := .bool B) rfl (fun _ _ _ h => h) (by rfl) (by assumption) (fun wS hSw => ?_) ?_
      · (try dsimp only at hSw); go_simp
      dsimp only [Act.put, List.setIfInBounds_toArray, List.set_cons_zero, List.set_cons_succ]
      refine wpAnyT_end ?_
      refine wpAnyH_listed #[true, true, true, true, true, true, true, true, true, true, true, true, true, true, true, true] (by kernel_rfl) ?_
      refine wpAnyH_done (by kernel_rfl) ?_ _
      clear hHeld
      cases B
      · go_wp2_with fail
        go_quiet (fail)
        go_wp2_with fail
        go_ret
        exact ⟨rfl, g0.then (Grows.then gq (grows_drewN _ _))⟩
      · go_wp2_with fail
        go_quiet (fail)
        go_wp2_with fail
        go_ret
        exact ⟨rfl, g0.then (Grows.then gq (grows_drewN _ _))⟩
    · have e4 := e3.out.2.2.2 rfl
      clear h31' h32' e3
      replace e4 := Lib.hid e4
      go_wp2_with fail
      have gd : Grows w1 wc.drew := Grows.then gx (Below.refl _ _).drew
      refine wp_region_held_drew (S := (fun w' => w'.cell? ⟨P, 0, none⟩ = some (.int .u8 (n1 : Int)) ∧ w'.cell? ⟨P, 1, none⟩ = some (.int .i64 N1) ∧ w'.cell? ⟨P, 2, none⟩ = some (.string ⟨s1.toArray⟩) ∧ w'.cell? ⟨P, 3, none⟩ = some (.slice a1 l1.length k1) ∧ w'.cell? ⟨P, 4, none⟩ = some (.slice b1 t1.length j1) ∧ w'.cell? ⟨(P + 1), 1, none⟩ = some (.int .i64 N2) ∧ w'.cell? ⟨(P + 1), 2, none⟩ = some (.string ⟨s2.toArray⟩) ∧ w'.cell? ⟨(P + 1), 3, none⟩ = some (.slice a2 l2.length k2) ∧ w'.cell? ⟨(P + 1), 4, none⟩ = some (.slice b2 t2.length j2) ∧ Grows w1 w')) (by kernel_rfl) (hk.out _ gd) (fun hHeld => ?_)
      refine wpAnyH_listed #[false, false, false, false, false, false, false, false] (by kernel_rfl) ?_
      refine wpAnyT_begin [0, 1, 3, 4] (by kernel_rfl) (by kernel_rfl) ?_
      refine wpAnyT_take (oi := ⟨some 115, Op.fieldAddr 45 (Operand.tmp 2) 4, 0, _, _, none⟩) (v := .pointer (some ⟨P, 4, none⟩)) rfl (fun _ _ _ h => h) (by rfl) (by assumption) (fun wS hSw => ?_) ?_
      · (try dsimp only at hSw); go_simp
      dsimp only [Act.put, List.setIfInBounds_toArray, List.set_cons_zero, List.set_cons_succ]
      refine wpAnyT_take (oi := ⟨some 116, Op.load 23 (Operand.tmp 115), 23, _, _, none⟩) (v := .slice b1 t1.length j1) rfl (fun _ _ _ h => h) (by rfl) (by assumption) (fun wS hSw => ?_) ?_
      · (try dsimp only at hSw); go_simp
      dsimp only [Act.put, List.setIfInBounds_toArray, List.set_cons_zero, List.set_cons_succ]
      refine wpAnyT_take (oi := ⟨some 118, Op.fieldAddr 45 (Operand.tmp 3) 4, 0, _, _, none⟩) (v := .pointer (some ⟨P + 1, 4, none⟩)) rfl (fun _ _ _ h => h) (by rfl) (by assumption) (fun wS hSw => ?_) ?_
      · (try dsimp only at hSw); go_simp
      dsimp only [Act.put, List.setIfInBounds_toArray, List.set_cons_zero, List.set_cons_succ]
      refine wpAnyT_take (oi := ⟨some 119, Op.load 23 (Operand.tmp 118), 23, _, _, none⟩) (v := .slice b2 t2.length j2) rfl (fun _ _ _ h => h) (by rfl) (by assumption) (fun wS hSw => ?_) ?_
      · (try dsimp only at hSw); go_simp
      dsimp only [Act.put, List.setIfInBounds_toArray, List.set_cons_zero, List.set_cons_succ]
      refine wpAnyT_end ?_
      refine wpAnyH_listed #[true, true, false, true, true, false, false, false] (by kernel_rfl) ?_
      refine wpAnyH_ready (rs := [2]) (by kernel_rfl) (by simp) ?_
      refine AllReadyH.cons (o := ⟨some 117, Op.call { callee := Callee.value (Operand.func 11), args := #[Operand.tmp 116], argTypes := #[23] }, 23, _, _, none⟩) rfl (fun K hK => ?_) AllReadyH.nil
      go_simp
      go_at_call 11
      refine (cut_any _ t1 _ (h41.later gd) HT1.out).mono ?_
      rintro e wa ⟨va, rfl, hra, hx⟩
      have gwa := Grows.then gd hx
      clear hx hHeld
      go_wp2_with fail
      refine hK.out _ _ (hk.out _ gwa) (fun hHeld => ?_)
      clear hK K
      try dsimp only [Act.put, List.setIfInBounds_toArray, List.set_cons_zero, List.set_cons_succ]
      refine wpAnyH_listed #[true, true, true, true, true, false, false, false] (by kernel_rfl) ?_
      refine wpAnyH_ready (rs := [5]) (by kernel_rfl) (by simp) ?_
      refine AllReadyH.cons (o := ⟨some 120, Op.call { callee := Callee.value (Operand.func 11), args := #[Operand.tmp 119], argTypes := #[23] }, 23, _, _, none⟩) rfl (fun K hK => ?_) AllReadyH.nil
      go_simp
      go_at_call 11
      refine (cut_any _ t2 _ (h42.later gwa) HT2.out).mono ?_
      rintro e wb ⟨vb, rfl, hrb, hx⟩
      have gwb := Grows.then gwa hx
      replace hra := hra.later hx
      clear hx hHeld
      go_wp2_with fail
      refine hK.out _ _ (hk.out _ gwb) (fun hHeld => ?_)
      clear hK K
      try dsimp only [Act.put, List.setIfInBounds_toArray, List.set_cons_zero, List.set_cons_succ]
      refine wpAnyH_listed #[true, true, true, true, true, true, false, false] (by kernel_rfl) ?_
      refine wpAnyH_ready (rs := [6]) (by kernel_rfl) (by simp) ?_
      refine AllReadyH.cons (o := ⟨some 121, Op.call { callee := Callee.value (Operand.func 29), args := #[Operand.tmp 117, Operand.tmp 120], argTypes := #[23, 23] }, 4, _, _, none⟩) rfl (fun K hK => ?_) AllReadyH.nil
      go_simp
      go_at_call 29
      refine (same_strs _ _ (cutOf t1) (cutOf t2) _ hra hrb B e4.out).mono ?_
      rintro e wq ⟨rfl, hx⟩
      have gwq := Grows.then gwb hx
      clear hx hHeld
      go_wp2_with fail
      refine hK.out _ _ (hk.out _ gwq) (fun hHeld => ?_)
      clear hK K
      try dsimp only [Act.put, List.setIfInBounds_toArray, List.set_cons_zero, List.set_cons_succ]
      refine wpAnyH_listed #[true, true, true, true, true, true, true, false] (by kernel_rfl) ?_
      refine wpAnyT_begin [7] (by kernel_rfl) (by kernel_rfl) ?_
      refine wpAnyT_take (oi := ⟨some 8, Op.assign (Operand.tmp 121), 4, _, _, none⟩) (v := .bool B) rfl (fun _ _ _ h => h) (by rfl) (by assumption) (fun wS hSw => ?_) ?_
      · (try dsimp only at hSw); go_simp
      dsimp only [Act.put, List.setIfInBounds_toArray, List.set_cons_zero, List.set_cons_succ]
      refine wpAnyT_end ?_
      refine wpAnyH_listed #[true, true, true, true, true, true, true, true] (by kernel_rfl) ?_
      refine wpAnyH_done (by kernel_rfl) ?_ _
      clear hHeld hra hrb
      cases B
      · go_wp2_with fail
        go_quiet (fail)
        go_wp2_with fail
        go_ret
        exact ⟨rfl, g0.then (Grows.then gwq (grows_drewN _ _))⟩
      · go_wp2_with fail
        go_quiet (fail)
        go_wp2_with fail
        go_ret
        exact ⟨rfl, g0.then (Grows.then gwq (grows_drewN _ _))⟩

end Go.Proofs.YtjiljkiedidmeaaDoor
