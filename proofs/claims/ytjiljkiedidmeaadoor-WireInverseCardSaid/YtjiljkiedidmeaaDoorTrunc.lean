/- WireTruncated: the walk. -/
import Derived.Test.YtjiljkiedidmeaaDoorNothing
namespace Go.Proofs.YtjiljkiedidmeaaDoor
open Go.RowKit Go.Lib

/-- A value's serialization, of its kind. -/
def encV (z : Nat) (N : Int) (s : List UInt8) (l : List Int) (t : List (List UInt8)) : List UInt8 :=
  if z = 0 then encI N else if z = 1 then encT s else if z = 2 then encL encI l else encL encT t

theorem encL_ne {α : Type} (enc : α → List UInt8) (l : List α) : 0 < (encL enc l).length := by rw [encL_len]; omega
theorem encV_pos (z : Nat) (N : Int) (s : List UInt8) (l : List Int) (t : List (List UInt8)) : 0 < (encV z N s l t).length := by
  unfold encV
  split
  · exact List.length_pos_iff.2 (fitsI.ne N)
  · split
    · exact List.length_pos_iff.2 (fitsT.ne s)
    · split
      · exact encL_ne _ _
      · exact encL_ne _ _
theorem encV_le (z : Nat) {N : Int} {s : List UInt8} {l : List Int} {t : List (List UInt8)} (hN : InI N) (hs : s.length ≤ 100) (hl : ∀ x ∈ l, InI x) (hl2 : l.length ≤ 20) (htb : (t.flatMap encT).length ≤ 2420) :
    (encV z N s l t).length ≤ 3000 := by
  have h1 := encI_le hN
  have h2 := encT_le hs (by omega)
  have h3 := ints_bytes hl 20 hl2
  unfold encV
  split
  · omega
  · split
    · omega
    · split <;> (rw [encL_len]; omega)
theorem encV_cut (z : Nat) {N : Int} {s : List UInt8} {l : List Int} {t : List (List UInt8)} (hN : InI N) (hs : InT s) (hl : ∀ x ∈ l, InI x) (ht : ∀ x ∈ t, InT x) (k : Nat) (hk : k < (encV z N s l t).length) : FailsAt z ((encV z N s l t).take k) := by
  unfold encV at *
  refine ⟨?_, ?_, ?_, ?_⟩ <;> (rintro rfl; simp only [if_true, if_false, Nat.reduceEqDiff] at *)
  · exact fitsI.cut hN k hk
  · exact fitsT.cut hs k hk
  · exact fitsIs.cut hl k hk
  · exact fitsTs.cut ht k hk
theorem grows_alloc {a b : World} (h : Grows a b) (o : Obj) : Grows a (b.alloc o) := h.alloc h.size o

set_option linter.unusedSimpArgs false in
set_option maxRecDepth 100000 in
set_option maxHeartbeats 4000000 in
theorem trunc_walk (n : Nat) (N : Int) (s : List UInt8) (vl vt : Value) (l : List Int) (t : List (List UInt8)) (c : Nat) (w : World) (E : Env w)
    (hN : InI N) (hs : (s.length : Int) ≤ 9223372036854775807) (h3 : Row w vl (ints l)) (h4 : Row w vt (strs t)) (hl : ∀ x ∈ l, InI x) (ht : ∀ x ∈ t, (x.length : Int) ≤ 9223372036854775807) (hc : c < 65536) :
    Calls Tryd.prog 7 #[.agg #[.int .u8 (n : Int), .int .i64 N, .string ⟨s.toArray⟩, vl, vt], .int .u16 (c : Int)] w fun e w' => e = .returned (.bool true) ∧ Grows w w' := by
  have hx := extract_take s 100
  have hm := min_nat s.length 100
  have hsz := size_of_list s
  have hle : min s.length 100 ≤ s.length := Nat.min_le_left _ _
  have hS1 : (s.take 100).length ≤ 100 := by rw [List.length_take]; omega
  rw [show (((100 : Nat) : Int)) = 100 from rfl] at hm
  obtain ⟨a1, k1, rfl, hc1, hc2, -⟩ := id h3
  obtain ⟨a2, k2, rfl, hc3, hc4, -⟩ := id h4
  have h3' := h3.first 20
  rw [ints_take] at h3'
  rw [ints_length] at h3 h3' hc1
  rw [strs_length] at h4 hc3
  have hL20 : (l.take 20).length ≤ 20 := by rw [List.length_take]; omega
  have hl20 : ∀ x ∈ l.take 20, InI x := fun x hx => hl x (List.mem_of_mem_take hx)
  have hmin : min l.length 20 = (l.take 20).length := by rw [List.length_take]; omega
  have hle2 : (l.take 20).length ≤ k1 := by rw [List.length_take]; omega
  have hm2 : min (l.length : Int) 20 = (((l.take 20).length : Nat) : Int) := by rw [← hmin]; exact min_nat _ 20
  rw [hmin] at h3'
  have hcl := cutOf_length t
  have hcb := cutOf_bytes t
  have HL := Lib.hid hl20
  have HT := Lib.hid ht
  clear hl20 ht hl hmin h3
  rw [ints_length, strs_length]
  generalize l.take 20 = L at *
  generalize s.take 100 = S at *
  have h56 := size_of_list S
  have hSb := encT_le hS1 (by omega)
  have hLb := ints_bytes HL.out 20 hL20
  go_enter Tryd.func7, Tryd.ntmps7
  go_wp2_with fail
  refine (sane _ (E.alloc _)).mono ?_
  rintro e w1 ⟨rfl, g1⟩
  go_wp2_with fail
  have g0 : Grows w w1 := Grows.then ((Below.refl _ w).alloc (Nat.le_refl _) _) g1
  have hP : w1.heap[w.heap.size]? = some (.cells #[.int .u8 (n : Int), .int .i64 N, .string ⟨s.toArray⟩, .slice a1 l.length k1, .slice a2 t.length k2] 45 (0, 0)) := (g1.block _ (by simp)).trans (heap_alloc_new _ _)
  have hPl : w.heap.size < w1.heap.size := (Array.getElem?_eq_some_iff.1 hP).1
  have E1 := E.grows g0
  replace h3' := h3'.later g0
  replace h4 := h4.later g0
  have hk : ∀ w', Grows w1 w' → w'.cell? ⟨w.heap.size, 0, none⟩ = some (.int .u8 (n : Int)) ∧ w'.cell? ⟨w.heap.size, 1, none⟩ = some (.int .i64 N) ∧ w'.cell? ⟨w.heap.size, 2, none⟩ = some (.string ⟨s.toArray⟩) ∧ w'.cell? ⟨w.heap.size, 3, none⟩ = some (.slice a1 l.length k1) ∧ w'.cell? ⟨w.heap.size, 4, none⟩ = some (.slice a2 t.length k2) ∧ Grows w1 w' := by
    intro w' g
    have h := (g.block _ hPl).trans hP
    refine ⟨?_, ?_, ?_, ?_, ?_, g⟩ <;> (rw [cell_of_heap h]; rfl)
  clear g1 hP E
  generalize w.heap.size = P at *
  have hk4 : n % 4 = 0 ∨ n % 4 = 1 ∨ n % 4 = 2 ∨ n % 4 = 3 := by omega
  go_cut [6] (fun s6 wx => s6 = .string ⟨(encV (n % 4) N S L (cutOf t)).toArray⟩ ∧ Grows w1 wx)
  case first =>
    have gd : Grows w1 w1.drew := (Below.refl _ _).drew
    refine wp_region_held_drew (S := (fun w' => w'.cell? ⟨P, 0, none⟩ = some (.int .u8 (n : Int)) ∧ w'.cell? ⟨P, 1, none⟩ = some (.int .i64 N) ∧ w'.cell? ⟨P, 2, none⟩ = some (.string ⟨s.toArray⟩) ∧ w'.cell? ⟨P, 3, none⟩ = some (.slice a1 l.length k1) ∧ w'.cell? ⟨P, 4, none⟩ = some (.slice a2 t.length k2) ∧ Grows w1 w')) (by kernel_rfl) (hk _ gd) (fun hHeld => ?_)
    refine wpAnyH_take (i := 0) (v := .pointer (some ⟨P, 1, none⟩)) rfl (by kernel_rfl) (by kernel_rfl) (by kernel_rfl) (fun _ _ _ h => h) (Or.inl ⟨by rfl, fun wS hSw => ?_⟩) (by assumption) ?_
    · (try dsimp only at hSw); go_simp
    try simp only [Act.put, List.setIfInBounds_toArray, List.set_cons_zero, List.set_cons_succ]
    refine wpAnyH_take (i := 1) (v := .int .i64 N) rfl (by kernel_rfl) (by kernel_rfl) (by kernel_rfl) (fun _ _ _ h => h) (Or.inl ⟨by rfl, fun wS hSw => ?_⟩) (by assumption) ?_
    · (try dsimp only at hSw); go_simp
    try simp only [Act.put, List.setIfInBounds_toArray, List.set_cons_zero, List.set_cons_succ]
    refine wpAnyH_take (i := 3) (v := .pointer (some ⟨P, 2, none⟩)) rfl (by kernel_rfl) (by kernel_rfl) (by kernel_rfl) (fun _ _ _ h => h) (Or.inl ⟨by rfl, fun wS hSw => ?_⟩) (by assumption) ?_
    · (try dsimp only at hSw); go_simp
    try simp only [Act.put, List.setIfInBounds_toArray, List.set_cons_zero, List.set_cons_succ]
    refine wpAnyH_take (i := 4) (v := .string ⟨s.toArray⟩) rfl (by kernel_rfl) (by kernel_rfl) (by kernel_rfl) (fun _ _ _ h => h) (Or.inl ⟨by rfl, fun wS hSw => ?_⟩) (by assumption) ?_
    · (try dsimp only at hSw); go_simp
    try simp only [Act.put, List.setIfInBounds_toArray, List.set_cons_zero, List.set_cons_succ]
    refine wpAnyH_take (i := 5) (v := .pointer (some ⟨P, 2, none⟩)) rfl (by kernel_rfl) (by kernel_rfl) (by kernel_rfl) (fun _ _ _ h => h) (Or.inl ⟨by rfl, fun wS hSw => ?_⟩) (by assumption) ?_
    · (try dsimp only at hSw); go_simp
    try simp only [Act.put, List.setIfInBounds_toArray, List.set_cons_zero, List.set_cons_succ]
    refine wpAnyH_take (i := 6) (v := .string ⟨s.toArray⟩) rfl (by kernel_rfl) (by kernel_rfl) (by kernel_rfl) (fun _ _ _ h => h) (Or.inl ⟨by rfl, fun wS hSw => ?_⟩) (by assumption) ?_
    · (try dsimp only at hSw); go_simp
    try simp only [Act.put, List.setIfInBounds_toArray, List.set_cons_zero, List.set_cons_succ]
    refine wpAnyH_take (i := 7) (v := .int .i64 s.length) rfl (by kernel_rfl) (by kernel_rfl) (by kernel_rfl) (fun _ _ _ h => h) (Or.inl ⟨by rfl, fun wS hSw => ?_⟩) (by assumption) ?_
    · (try dsimp only at hSw); go_simp
    try simp only [Act.put, List.setIfInBounds_toArray, List.set_cons_zero, List.set_cons_succ]
    refine wpAnyH_take (i := 8) (v := .int .i64 (min s.length 100 : Nat)) rfl (by kernel_rfl) (by kernel_rfl) (by kernel_rfl) (fun _ _ _ h => h) (Or.inl ⟨by rfl, fun wS hSw => ?_⟩) (by assumption) ?_
    · (try dsimp only at hSw); go_simp
    try simp only [Act.put, List.setIfInBounds_toArray, List.set_cons_zero, List.set_cons_succ]
    refine wpAnyH_take (i := 9) (v := .string ⟨S.toArray⟩) rfl (by kernel_rfl) (by kernel_rfl) (by kernel_rfl) (fun _ _ _ h => h) (Or.inl ⟨by rfl, fun wS hSw => ?_⟩) (by assumption) ?_
    · (try dsimp only at hSw); go_simp
    try simp only [Act.put, List.setIfInBounds_toArray, List.set_cons_zero, List.set_cons_succ]
    refine wpAnyH_take (i := 11) (v := .pointer (some ⟨P, 3, none⟩)) rfl (by kernel_rfl) (by kernel_rfl) (by kernel_rfl) (fun _ _ _ h => h) (Or.inl ⟨by rfl, fun wS hSw => ?_⟩) (by assumption) ?_
    · (try dsimp only at hSw); go_simp
    try simp only [Act.put, List.setIfInBounds_toArray, List.set_cons_zero, List.set_cons_succ]
    refine wpAnyH_take (i := 12) (v := .slice a1 l.length k1) rfl (by kernel_rfl) (by kernel_rfl) (by kernel_rfl) (fun _ _ _ h => h) (Or.inl ⟨by rfl, fun wS hSw => ?_⟩) (by assumption) ?_
    · (try dsimp only at hSw); go_simp
    try simp only [Act.put, List.setIfInBounds_toArray, List.set_cons_zero, List.set_cons_succ]
    refine wpAnyH_take (i := 13) (v := .pointer (some ⟨P, 3, none⟩)) rfl (by kernel_rfl) (by kernel_rfl) (by kernel_rfl) (fun _ _ _ h => h) (Or.inl ⟨by rfl, fun wS hSw => ?_⟩) (by assumption) ?_
    · (try dsimp only at hSw); go_simp
    try simp only [Act.put, List.setIfInBounds_toArray, List.set_cons_zero, List.set_cons_succ]
    refine wpAnyH_take (i := 14) (v := .slice a1 l.length k1) rfl (by kernel_rfl) (by kernel_rfl) (by kernel_rfl) (fun _ _ _ h => h) (Or.inl ⟨by rfl, fun wS hSw => ?_⟩) (by assumption) ?_
    · (try dsimp only at hSw); go_simp
    try simp only [Act.put, List.setIfInBounds_toArray, List.set_cons_zero, List.set_cons_succ]
    refine wpAnyH_take (i := 15) (v := .int .i64 l.length) rfl (by kernel_rfl) (by kernel_rfl) (by kernel_rfl) (fun _ _ _ h => h) (Or.inl ⟨by rfl, fun wS hSw => ?_⟩) (by assumption) ?_
    · (try dsimp only at hSw); go_simp
    try simp only [Act.put, List.setIfInBounds_toArray, List.set_cons_zero, List.set_cons_succ]
    refine wpAnyH_take (i := 16) (v := .int .i64 (L.length : Nat)) rfl (by kernel_rfl) (by kernel_rfl) (by kernel_rfl) (fun _ _ _ h => h) (Or.inl ⟨by rfl, fun wS hSw => ?_⟩) (by assumption) ?_
    · (try dsimp only at hSw); go_simp
    try simp only [Act.put, List.setIfInBounds_toArray, List.set_cons_zero, List.set_cons_succ]
    refine wpAnyH_take (i := 17) (v := .slice a1 L.length k1) rfl (by kernel_rfl) (by kernel_rfl) (by kernel_rfl) (fun _ _ _ h => h) (Or.inl ⟨by rfl, fun wS hSw => ?_⟩) (by assumption) ?_
    · (try dsimp only at hSw); go_simp
    try simp only [Act.put, List.setIfInBounds_toArray, List.set_cons_zero, List.set_cons_succ]
    refine wpAnyH_take (i := 19) (v := .pointer (some ⟨P, 4, none⟩)) rfl (by kernel_rfl) (by kernel_rfl) (by kernel_rfl) (fun _ _ _ h => h) (Or.inl ⟨by rfl, fun wS hSw => ?_⟩) (by assumption) ?_
    · (try dsimp only at hSw); go_simp
    try simp only [Act.put, List.setIfInBounds_toArray, List.set_cons_zero, List.set_cons_succ]
    refine wpAnyH_take (i := 20) (v := .slice a2 t.length k2) rfl (by kernel_rfl) (by kernel_rfl) (by kernel_rfl) (fun _ _ _ h => h) (Or.inl ⟨by rfl, fun wS hSw => ?_⟩) (by assumption) ?_
    · (try dsimp only at hSw); go_simp
    try simp only [Act.put, List.setIfInBounds_toArray, List.set_cons_zero, List.set_cons_succ]
    refine wpAnyH_take (i := 24) (v := .pointer (some ⟨P, 0, none⟩)) rfl (by kernel_rfl) (by kernel_rfl) (by kernel_rfl) (fun _ _ _ h => h) (Or.inl ⟨by rfl, fun wS hSw => ?_⟩) (by assumption) ?_
    · (try dsimp only at hSw); go_simp
    try simp only [Act.put, List.setIfInBounds_toArray, List.set_cons_zero, List.set_cons_succ]
    refine wpAnyH_take (i := 25) (v := .int .u8 (n : Int)) rfl (by kernel_rfl) (by kernel_rfl) (by kernel_rfl) (fun _ _ _ h => h) (Or.inl ⟨by rfl, fun wS hSw => ?_⟩) (by assumption) ?_
    · (try dsimp only at hSw); go_simp
    try simp only [Act.put, List.setIfInBounds_toArray, List.set_cons_zero, List.set_cons_succ]
    refine wpAnyH_take (i := 26) (v := .int .u8 ((n : Int).tmod 4)) rfl (by kernel_rfl) (by kernel_rfl) (by kernel_rfl) (fun _ _ _ h => h) (Or.inl ⟨by rfl, fun wS hSw => ?_⟩) (by assumption) ?_
    · (try dsimp only at hSw); go_simp
    try simp only [Act.put, List.setIfInBounds_toArray, List.set_cons_zero, List.set_cons_succ]
    refine wpAnyH_ready (rs := [2]) (by kernel_rfl) (by simp) ?_
    refine AllReadyH.cons rfl (fun K hK => ?_) AllReadyH.nil
    go_simp
    go_at_call 12
    refine (int_any N _ hN (E1.grows gd)).mono ?_
    rintro e u1 ⟨rfl, hx⟩
    have gu1 := Grows.then gd hx
    clear hx
    go_wp2_with fail
    refine hK.out _ _ (hk _ gu1) (fun hHeld => ?_)
    clear hK K
    try simp only [Act.put, List.setIfInBounds_toArray, List.set_cons_zero, List.set_cons_succ]
    refine wpAnyH_ready (rs := [10]) (by kernel_rfl) (by simp) ?_
    refine AllReadyH.cons rfl (fun K hK => ?_) AllReadyH.nil
    go_simp
    go_at_call 14
    refine (text_any _ _ (by rw [h56]; omega) (E1.grows gu1)).mono ?_
    rintro e u2 ⟨rfl, hx⟩
    have gu2 := Grows.then gu1 hx
    clear hx
    go_wp2_with fail
    refine hK.out _ _ (hk _ gu2) (fun hHeld => ?_)
    clear hK K
    try simp only [Act.put, List.setIfInBounds_toArray, List.set_cons_zero, List.set_cons_succ]
    refine wpAnyH_ready (rs := [18]) (by kernel_rfl) (by simp) ?_
    refine AllReadyH.cons rfl (fun K hK => ?_) AllReadyH.nil
    go_simp
    go_at_call 16
    refine (wints_any _ L _ (h3'.later gu2) HL.out (by omega) (E1.grows gu2)).mono ?_
    rintro e u3 ⟨rfl, hx⟩
    have gu3 := Grows.then gu2 hx
    clear hx
    go_wp2_with fail
    refine hK.out _ _ (hk _ gu3) (fun hHeld => ?_)
    clear hK K
    try simp only [Act.put, List.setIfInBounds_toArray, List.set_cons_zero, List.set_cons_succ]
    refine wpAnyH_ready (rs := [21]) (by kernel_rfl) (by simp) ?_
    refine AllReadyH.cons rfl (fun K hK => ?_) AllReadyH.nil
    go_simp
    go_at_call 11
    refine (cut_any _ t _ (h4.later gu3) HT.out).mono ?_
    rintro e u4 ⟨vc, rfl, hrc, hx⟩
    have gu4 := Grows.then gu3 hx
    clear hx
    go_wp2_with fail
    refine hK.out _ _ (hk _ gu4) (fun hHeld => ?_)
    clear hK K
    try simp only [Act.put, List.setIfInBounds_toArray, List.set_cons_zero, List.set_cons_succ]
    refine wpAnyH_ready (rs := [22]) (by kernel_rfl) (by simp) ?_
    refine AllReadyH.cons rfl (fun K hK => ?_) AllReadyH.nil
    go_simp
    go_at_call 18
    refine (wtexts_any _ (cutOf t) _ hrc (by omega) (E1.grows gu4)).mono ?_
    rintro e u5 ⟨rfl, hx⟩
    have gu5 := Grows.then gu4 hx
    clear hx
    go_wp2_with fail
    refine hK.out _ _ (hk _ gu5) (fun hHeld => ?_)
    clear hK K
    try simp only [Act.put, List.setIfInBounds_toArray, List.set_cons_zero, List.set_cons_succ]
    refine wpAnyH_ready (rs := [23]) (by kernel_rfl) (by simp) ?_
    refine AllReadyH.cons rfl (fun K hK => ?_) AllReadyH.nil
    go_simp
    refine hK.out _ _ (hk _ (grows_alloc gu5 _)) (fun hHeld => ?_)
    clear hK K
    try simp only [Act.put, List.setIfInBounds_toArray, List.set_cons_zero, List.set_cons_succ]
    have gB : Grows w1 (u5.alloc (.cells #[.string ⟨(encI N).toArray⟩, .string ⟨(encT S).toArray⟩, .string ⟨(encL encI L).toArray⟩, .string ⟨(encL encT (cutOf t)).toArray⟩] 9)) := grows_alloc gu5 _
    rcases hk4 with hz | hz | hz | hz
    · have q1 : (n : Int).tmod 4 = 0 := by show ((n % 4 : Nat) : Int) = 0; omega
      replace hz := Lib.hid hz
      refine wpAnyH_take (i := 27) (v := .pointer (some ⟨u5.heap.size, 0, none⟩)) rfl (by kernel_rfl) (by kernel_rfl) (by kernel_rfl) (fun _ _ _ h => h) (Or.inl ⟨by rfl, fun wS hSw => ?_⟩) (by assumption) ?_
      · (try dsimp only at hSw); go_simp
      try simp only [Act.put, List.setIfInBounds_toArray, List.set_cons_zero, List.set_cons_succ]
      refine wpAnyH_ready (rs := [28]) (by kernel_rfl) (by simp) ?_
      refine AllReadyH.cons rfl (fun K hK => ?_) AllReadyH.nil
      go_simp
      refine hK.out _ _ (hk _ gB) (fun hHeld => ?_)
      clear hK K
      try simp only [Act.put, List.setIfInBounds_toArray, List.set_cons_zero, List.set_cons_succ]
      refine wpAnyH_take (i := 29) (oi := ⟨some 6, .assign (.tmp 38), 9, _, _, none⟩) (v := .string ⟨(encI N).toArray⟩) rfl (by kernel_rfl) (by kernel_rfl) (by kernel_rfl) (fun _ _ _ h => h) (Or.inl ⟨by rfl, fun wS hSw => ?_⟩) (by assumption) ?_
      · (try dsimp only at hSw); go_simp
      try simp only [Act.put, List.setIfInBounds_toArray, List.set_cons_zero, List.set_cons_succ]
      refine wpAnyH_done (by kernel_rfl) ?_ _
      go_wp2_with fail
      try simp only [Act.put, List.setIfInBounds_toArray, List.set_cons_zero, List.set_cons_succ]
      go_meet
      exact ⟨by rw [hz.out]; rfl, gB⟩
    · have q1 : (n : Int).tmod 4 = 1 := by show ((n % 4 : Nat) : Int) = 1; omega
      replace hz := Lib.hid hz
      refine wpAnyH_take (i := 27) (v := .pointer (some ⟨u5.heap.size, 1, none⟩)) rfl (by kernel_rfl) (by kernel_rfl) (by kernel_rfl) (fun _ _ _ h => h) (Or.inl ⟨by rfl, fun wS hSw => ?_⟩) (by assumption) ?_
      · (try dsimp only at hSw); go_simp
      try simp only [Act.put, List.setIfInBounds_toArray, List.set_cons_zero, List.set_cons_succ]
      refine wpAnyH_ready (rs := [28]) (by kernel_rfl) (by simp) ?_
      refine AllReadyH.cons rfl (fun K hK => ?_) AllReadyH.nil
      go_simp
      refine hK.out _ _ (hk _ gB) (fun hHeld => ?_)
      clear hK K
      try simp only [Act.put, List.setIfInBounds_toArray, List.set_cons_zero, List.set_cons_succ]
      refine wpAnyH_take (i := 29) (oi := ⟨some 6, .assign (.tmp 38), 9, _, _, none⟩) (v := .string ⟨(encT S).toArray⟩) rfl (by kernel_rfl) (by kernel_rfl) (by kernel_rfl) (fun _ _ _ h => h) (Or.inl ⟨by rfl, fun wS hSw => ?_⟩) (by assumption) ?_
      · (try dsimp only at hSw); go_simp
      try simp only [Act.put, List.setIfInBounds_toArray, List.set_cons_zero, List.set_cons_succ]
      refine wpAnyH_done (by kernel_rfl) ?_ _
      go_wp2_with fail
      try simp only [Act.put, List.setIfInBounds_toArray, List.set_cons_zero, List.set_cons_succ]
      go_meet
      exact ⟨by rw [hz.out]; rfl, gB⟩
    · have q1 : (n : Int).tmod 4 = 2 := by show ((n % 4 : Nat) : Int) = 2; omega
      replace hz := Lib.hid hz
      refine wpAnyH_take (i := 27) (v := .pointer (some ⟨u5.heap.size, 2, none⟩)) rfl (by kernel_rfl) (by kernel_rfl) (by kernel_rfl) (fun _ _ _ h => h) (Or.inl ⟨by rfl, fun wS hSw => ?_⟩) (by assumption) ?_
      · (try dsimp only at hSw); go_simp
      try simp only [Act.put, List.setIfInBounds_toArray, List.set_cons_zero, List.set_cons_succ]
      refine wpAnyH_ready (rs := [28]) (by kernel_rfl) (by simp) ?_
      refine AllReadyH.cons rfl (fun K hK => ?_) AllReadyH.nil
      go_simp
      refine hK.out _ _ (hk _ gB) (fun hHeld => ?_)
      clear hK K
      try simp only [Act.put, List.setIfInBounds_toArray, List.set_cons_zero, List.set_cons_succ]
      refine wpAnyH_take (i := 29) (oi := ⟨some 6, .assign (.tmp 38), 9, _, _, none⟩) (v := .string ⟨(encL encI L).toArray⟩) rfl (by kernel_rfl) (by kernel_rfl) (by kernel_rfl) (fun _ _ _ h => h) (Or.inl ⟨by rfl, fun wS hSw => ?_⟩) (by assumption) ?_
      · (try dsimp only at hSw); go_simp
      try simp only [Act.put, List.setIfInBounds_toArray, List.set_cons_zero, List.set_cons_succ]
      refine wpAnyH_done (by kernel_rfl) ?_ _
      go_wp2_with fail
      try simp only [Act.put, List.setIfInBounds_toArray, List.set_cons_zero, List.set_cons_succ]
      go_meet
      exact ⟨by rw [hz.out]; rfl, gB⟩
    · have q1 : (n : Int).tmod 4 = 3 := by show ((n % 4 : Nat) : Int) = 3; omega
      replace hz := Lib.hid hz
      refine wpAnyH_take (i := 27) (v := .pointer (some ⟨u5.heap.size, 3, none⟩)) rfl (by kernel_rfl) (by kernel_rfl) (by kernel_rfl) (fun _ _ _ h => h) (Or.inl ⟨by rfl, fun wS hSw => ?_⟩) (by assumption) ?_
      · (try dsimp only at hSw); go_simp
      try simp only [Act.put, List.setIfInBounds_toArray, List.set_cons_zero, List.set_cons_succ]
      refine wpAnyH_ready (rs := [28]) (by kernel_rfl) (by simp) ?_
      refine AllReadyH.cons rfl (fun K hK => ?_) AllReadyH.nil
      go_simp
      refine hK.out _ _ (hk _ gB) (fun hHeld => ?_)
      clear hK K
      try simp only [Act.put, List.setIfInBounds_toArray, List.set_cons_zero, List.set_cons_succ]
      refine wpAnyH_take (i := 29) (oi := ⟨some 6, .assign (.tmp 38), 9, _, _, none⟩) (v := .string ⟨(encL encT (cutOf t)).toArray⟩) rfl (by kernel_rfl) (by kernel_rfl) (by kernel_rfl) (fun _ _ _ h => h) (Or.inl ⟨by rfl, fun wS hSw => ?_⟩) (by assumption) ?_
      · (try dsimp only at hSw); go_simp
      try simp only [Act.put, List.setIfInBounds_toArray, List.set_cons_zero, List.set_cons_succ]
      refine wpAnyH_done (by kernel_rfl) ?_ _
      go_wp2_with fail
      try simp only [Act.put, List.setIfInBounds_toArray, List.set_cons_zero, List.set_cons_succ]
      go_meet
      exact ⟨by rw [hz.out]; rfl, gB⟩
  case rest =>
    obtain ⟨rfl, gx⟩ := hcut
    clear hk4 HT hx hm hsz hle hm2 h3' h4 h56 hc1 hc2 hc3 hc4 hle2 hs
    have hz4 : n % 4 < 4 := Nat.mod_lt _ (by omega)
    have hcm : ∀ x ∈ cutOf t, InT x := fun x hx => by have := cutOf_mem hx; unfold InT; omega
    have hlen := encV_le (n % 4) hN hS1 HL.out hL20 hcb
    have hpos := encV_pos (n % 4) N S L (cutOf t)
    have hcut := Lib.hid (encV_cut (n % 4) hN (show InT S by unfold InT; omega) HL.out hcm)
    clear HL hcm hSb hLb hS1 hcl hcb hL20 hN
    generalize encV (n % 4) N S L (cutOf t) = m at *
    have q1 : (n : Int).tmod 4 = ((n % 4 : Nat) : Int) := rfl
    have c0 := (hk _ gx).1
    generalize n % 4 = z at *
    have q2 : (c : Int).tmod (m.length : Int) = ((c % m.length : Nat) : Int) := rfl
    have hy : c % m.length < m.length := Nat.mod_lt _ hpos
    generalize c % m.length = y at *
    have q3 : (m.length : Int) - 1 - (y : Int) = ((m.length - 1 - y : Nat) : Int) := by omega
    have hj : m.length - 1 - y < m.length := by omega
    have hx2 := extract_take m (m.length - 1 - y)
    rw [Nat.min_eq_right (by omega)] at hx2
    have hF := hcut.out (m.length - 1 - y) hj
    have hFl : (m.take (m.length - 1 - y)).length ≤ 3000 := by rw [List.length_take]; omega
    generalize m.length - 1 - y = j at *
    generalize m.take j = M at *
    replace hF := Lib.hid hF
    have hms := size_of_list m
    clear hcut
    go_wp2_with fail
    refine (new_any M _).mono ?_
    rintro e w3 ⟨rfl, h3, g3⟩
    have gy := Grows.then gx g3
    have c1 := (hk _ gy).1
    have Ey := E1.grows gy
    have hsy := h3.lt
    have hR : w1.heap.size ≤ wc.heap.size := gx.size
    have h44 : 4 ≤ w1.heap.size := E1.size
    clear g3 c0 hk hx2
    generalize wc.heap.size = R at *
    go_wp2_with fail
    refine (dec_any z _ M false _ Ey (by omega) (show M.length < 4294967281 by omega) h3 (fun e => by cases e) hz4 hF.out).mono ?_
    rintro e w4 ⟨rfl, h4, g4⟩
    have g5 := gy.trans (below_of_grown g4 hR gy.size)
    clear h3 g4 c1 hF
    go_wp2_with fail
    refine (bad_any _ _ _ _ h4).mono ?_
    rintro e w5 ⟨rfl, rfl⟩
    go_wp2_with fail
    clear gy Ey
    go_loopw [8] (fun x wr => ∃ k : Nat, k ≤ 4 ∧ x = .int .i64 k ∧ RdAt wr R [] true ∧ Grows w1 wr) (fun x _ => 4 - (RowKit.intOf x).toNat)
    case atStart => exact ⟨0, Nat.zero_le _, rfl, h4, g5⟩
    case round =>
      clear h4 g5
      obtain ⟨k, hk, rfl, h4, g5⟩ := hrel
      by_cases hlt : k < 4
      · have Er := E1.grows g5
        have hs5 := g5.size
        go_wp2_with fail
        refine (dec_any k _ [] true _ Er (by omega) (by decide) h4 (fun _ => rfl) hlt (dead_nil.at k)).mono ?_
        rintro e w6 ⟨rfl, h6, g6⟩
        have g7 := g5.trans (below_of_grown g6 hR hs5)
        clear h4 g5 g6
        go_wp2_with fail
        refine (bad_any _ _ _ _ h6).mono ?_
        rintro e w7 ⟨rfl, rfl⟩
        go_wp2_with fail
        refine (wleft_any _ _ _ _ h6).mono ?_
        rintro e w8 ⟨rfl, rfl⟩
        go_wp2_with fail
        go_roundw
        case rel => exact ⟨k + 1, by omega, by go_num, h6, g7⟩
        case measure => simp [RowKit.intOf]; omega
      · obtain rfl : k = 4 := by omega
        go_wp2_with fail
        go_ret
        exact ⟨rfl, g0.then g5⟩

end Go.Proofs.YtjiljkiedidmeaaDoor
