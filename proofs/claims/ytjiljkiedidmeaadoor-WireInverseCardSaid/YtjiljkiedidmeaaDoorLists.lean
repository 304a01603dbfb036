/- The two lists of wire: the generic function at ints and at strings. -/
import Derived.Test.YtjiljkiedidmeaaDoorBuild
import Derived.Test.YtjiljkiedidmeaaDoorWrite
namespace Go.Proofs.YtjiljkiedidmeaaDoor
open Go.RowKit Go.Lib

/-- A slice that reads as these values. -/
def Row (w : World) (v : Value) (xs : List Value) : Prop :=
  ∃ a cap, v = .slice a xs.length cap ∧ xs.length ≤ cap ∧ (cap : Int) ≤ 9223372036854775807 ∧ (xs = [] ∨ ∃ b o, a = some ⟨b, o, none⟩ ∧ ∀ i u, xs[i]? = some u → w.cell? ⟨b, o + i, none⟩ = some u)

theorem Row.same {w w' : World} {v : Value} {xs : List Value} (h : Row w v xs) (hc : ∀ b o x, w.cell? ⟨b, o, none⟩ = some x → w'.cell? ⟨b, o, none⟩ = some x) : Row w' v xs := by
  obtain ⟨a, cap, h1, h2, h3, h4⟩ := h
  refine ⟨a, cap, h1, h2, h3, ?_⟩
  rcases h4 with h4 | ⟨b, o, h5, h6⟩
  · exact .inl h4
  · exact .inr ⟨b, o, h5, fun i x hu => hc b (o + i) x (h6 i x hu)⟩
theorem Row.later {w w' : World} {v : Value} {xs : List Value} (h : Row w v xs) (hg : Grows w w') : Row w' v xs :=
  h.same fun _ _ _ hu => (hg.cell (World.block_lt_of_cell? w _ hu)).trans hu
theorem Row.nil (w : World) : Row w (.slice none 0 0) [] := ⟨none, 0, rfl, by simp, by simp, .inl rfl⟩

theorem isBuilder_later {B b : Nat} {bs : List Value} {w w' : World} (h : IsBuilder 68 5 B b bs w) (hg : Grows w w') : IsBuilder 68 5 B b bs w' := by
  rcases h with h | h
  · exact .inl (builder_later h hg)
  · exact .inr (builder_later h hg)

def ints (l : List Int) : List Value := l.map (Value.int .i64)
def strs (l : List (List UInt8)) : List Value := l.map str
theorem ints_length (l : List Int) : (ints l).length = l.length := by simp [ints]
theorem strs_length (l : List (List UInt8)) : (strs l).length = l.length := by simp [strs]

theorem bytes_bound {α : Type} (enc : α → List UInt8) (l : List α) (k : Nat) : ((l.take k).flatMap enc).length ≤ (l.flatMap enc).length := by
  have h : l.flatMap enc = (l.take k).flatMap enc ++ (l.drop k).flatMap enc := by rw [← List.flatMap_append, List.take_append_drop]
  rw [h, List.length_append]; omega
theorem take_next {α : Type} (enc : α → List UInt8) (l : List α) (k : Nat) (h : k < l.length) : (l.take (k + 1)).flatMap enc = (l.take k).flatMap enc ++ enc l[k] := by
  rw [List.take_succ_eq_append_getElem h, List.flatMap_append]; simp

set_option maxHeartbeats 1000000 in
theorem list_ints (v : Value) (l : List Int) (w : World) (hv : Row w v (ints l)) (hl : ∀ n ∈ l, InI n) (hb : (l.flatMap encI).length + 2 ≤ 140737488355328) (E : Env w) :
    Calls Tryd.prog 40 #[v, .func (.func 12) #[] #[]] w fun e w' => e = .returned (.string ⟨(encL encI l).toArray⟩) ∧ Grows w w' := by
  obtain ⟨a, cap, rfl, hc1, hc2, hrow⟩ := hv
  rw [ints_length] at hc1
  rw [ints_length]
  go_enter Tryd.func40, Tryd.ntmps40
  go_wp2_with fail
  refine (wbyte_any w.heap.size w.heap.size [] 91 _ (fresh_isBuilder 68 5 w) (by simp) (by simp)).mono ?_
  rintro e w1 ⟨rfl, h1, b1⟩
  have b1 : Grows w w1 := ((Below.refl _ w).alloc (Nat.le_refl _) _).trans b1
  have h1 : IsBuilder 68 5 w.heap.size w.heap.size (byteCells (91 :: (l.take 0).flatMap encI)) w1 := h1
  go_wp2_with fail
  go_loopw [11] (fun i wr => ∃ k : Nat, k ≤ l.length ∧ i = .int .i64 k ∧ IsBuilder 68 5 w.heap.size w.heap.size (byteCells (91 :: (l.take k).flatMap encI)) wr ∧ Grows w wr) (fun i _ => l.length - (RowKit.intOf i).toNat)
  case atStart => exact ⟨0, Nat.zero_le _, rfl, h1, b1⟩
  case round =>
    clear h1 b1
    obtain ⟨k, hk, rfl, h1, b1⟩ := hrel
    have hbk := bytes_bound encI l k
    have hs1 := b1.size
    by_cases hlt : k < l.length
    · rcases hrow with h0 | ⟨b, o, rfl, hcell⟩
      · rw [show l = [] from List.map_eq_nil_iff.1 h0] at hlt
        simp at hlt
      · have hcell0 := hcell k (.int .i64 l[k]) (by unfold ints; rw [List.getElem?_map, List.getElem?_eq_getElem hlt]; rfl)
        have hcell1 : wr.cell? ⟨b, o + k, none⟩ = some (.int .i64 l[k]) := (b1.cell (World.block_lt_of_cell? w _ hcell0)).trans hcell0
        have hlk := hl l[k] (List.getElem_mem hlt)
        have htn := Lib.hid (take_next encI l k hlt)
        have hbn := bytes_bound encI l (k + 1)
        rw [htn.out, List.length_append] at hbn
        have E1 := E.grows b1
        clear hcell hcell0
        generalize l[k] = n at *
        go_wp2_with fail
        refine (int_any n _ hlk E1).mono ?_
        rintro e w2 ⟨rfl, g2⟩
        clear hcell1
        have hs2 := g2.size
        have b2 := b1.then g2
        go_wp2_with fail
        refine (wstring_any _ _ _ _ _ (isBuilder_later h1 g2) (by simp only [byteCells_length, List.length_cons, size_of_list]; omega) (by omega)).mono ?_
        rintro e w3 ⟨rfl, h3, b3⟩
        have b3 := b2.trans b3
        clear h1 b1 b2 g2 E1
        go_wp2_with fail
        go_roundw
        case rel =>
          refine ⟨k + 1, by omega, by go_num, ?_, b3⟩
          rw [htn.out]
          rw [← byteCells_append] at h3
          exact h3
        case measure => simp [RowKit.intOf]; omega
    · obtain rfl : k = l.length := by omega
      rw [List.take_length] at h1
      go_wp2_with fail
      refine (wbyte_any _ _ _ 93 _ h1 (by simp only [byteCells_length, List.length_cons]; omega) (by omega)).mono ?_
      rintro e w3 ⟨rfl, h3, b3⟩
      have hs3 := b3.size
      have h3 : IsBuilder 68 5 w.heap.size w.heap.size (byteCells (encL encI l)) w3 := by
        unfold encL
        rw [← List.cons_append, byteCells_append]
        exact h3
      have b3 := b1.trans b3
      go_wp2_with fail
      refine (Tryd.Builder_String_any _ _ _ _ h3 (by omega)).mono ?_
      rintro e w4 ⟨rfl, b4⟩
      go_wp2_with fail
      go_ret
      exact ⟨rfl, b3.trans b4⟩

set_option maxHeartbeats 1000000 in
theorem list_strs (v : Value) (l : List (List UInt8)) (w : World) (hv : Row w v (strs l)) (hb : (l.flatMap encT).length + 2 ≤ 140737488355328) (E : Env w) :
    Calls Tryd.prog 41 #[v, .func (.func 14) #[] #[]] w fun e w' => e = .returned (.string ⟨(encL encT l).toArray⟩) ∧ Grows w w' := by
  obtain ⟨a, cap, rfl, hc1, hc2, hrow⟩ := hv
  rw [strs_length] at hc1
  rw [strs_length]
  go_enter Tryd.func41, Tryd.ntmps41
  go_wp2_with fail
  refine (wbyte_any w.heap.size w.heap.size [] 91 _ (fresh_isBuilder 68 5 w) (by simp) (by simp)).mono ?_
  rintro e w1 ⟨rfl, h1, b1⟩
  have b1 : Grows w w1 := ((Below.refl _ w).alloc (Nat.le_refl _) _).trans b1
  have h1 : IsBuilder 68 5 w.heap.size w.heap.size (byteCells (91 :: (l.take 0).flatMap encT)) w1 := h1
  go_wp2_with fail
  go_loopw [11] (fun i wr => ∃ k : Nat, k ≤ l.length ∧ i = .int .i64 k ∧ IsBuilder 68 5 w.heap.size w.heap.size (byteCells (91 :: (l.take k).flatMap encT)) wr ∧ Grows w wr) (fun i _ => l.length - (RowKit.intOf i).toNat)
  case atStart => exact ⟨0, Nat.zero_le _, rfl, h1, b1⟩
  case round =>
    clear h1 b1
    obtain ⟨k, hk, rfl, h1, b1⟩ := hrel
    have hbk := bytes_bound encT l k
    have hs1 := b1.size
    by_cases hlt : k < l.length
    · rcases hrow with h0 | ⟨b, o, rfl, hcell⟩
      · rw [show l = [] from List.map_eq_nil_iff.1 h0] at hlt
        simp at hlt
      · have hcell0 := hcell k (str l[k]) (by unfold strs; rw [List.getElem?_map, List.getElem?_eq_getElem hlt]; rfl)
        have hcell1 : wr.cell? ⟨b, o + k, none⟩ = some (str l[k]) := (b1.cell (World.block_lt_of_cell? w _ hcell0)).trans hcell0
        skip
        have htn := Lib.hid (take_next encT l k hlt)
        have hbn := bytes_bound encT l (k + 1)
        rw [htn.out, List.length_append] at hbn
        have E1 := E.grows b1
        clear hcell hcell0
        generalize l[k] = n at *
        unfold str at hcell1
        have hnl : n.length ≤ (encT n).length := by unfold encT; simp; omega
        go_wp2_with fail
        refine (text_any ⟨n.toArray⟩ _ (by rw [size_of_list]; omega) E1).mono ?_
        rintro e w2 ⟨rfl, g2⟩
        clear hcell1
        have hs2 := g2.size
        have b2 := b1.then g2
        go_wp2_with fail
        refine (wstring_any _ _ _ _ _ (isBuilder_later h1 g2) (by simp only [byteCells_length, List.length_cons, size_of_list]; omega) (by omega)).mono ?_
        rintro e w3 ⟨rfl, h3, b3⟩
        have b3 := b2.trans b3
        clear h1 b1 b2 g2 E1
        go_wp2_with fail
        go_roundw
        case rel =>
          refine ⟨k + 1, by omega, by go_num, ?_, b3⟩
          rw [htn.out]
          rw [← byteCells_append] at h3
          exact h3
        case measure => simp [RowKit.intOf]; omega
    · obtain rfl : k = l.length := by omega
      rw [List.take_length] at h1
      go_wp2_with fail
      refine (wbyte_any _ _ _ 93 _ h1 (by simp only [byteCells_length, List.length_cons]; omega) (by omega)).mono ?_
      rintro e w3 ⟨rfl, h3, b3⟩
      have hs3 := b3.size
      have h3 : IsBuilder 68 5 w.heap.size w.heap.size (byteCells (encL encT l)) w3 := by
        unfold encL
        rw [← List.cons_append, byteCells_append]
        exact h3
      have b3 := b1.trans b3
      go_wp2_with fail
      refine (Tryd.Builder_String_any _ _ _ _ h3 (by omega)).mono ?_
      rintro e w4 ⟨rfl, b4⟩
      go_wp2_with fail
      go_ret
      exact ⟨rfl, b3.trans b4⟩

set_option maxHeartbeats 400000 in
theorem wints_any (v : Value) (l : List Int) (w : World) (hv : Row w v (ints l)) (hl : ∀ n ∈ l, InI n) (hb : (l.flatMap encI).length + 2 ≤ 140737488355328) (E : Env w) :
    Calls Tryd.prog 16 #[v] w fun e w' => e = .returned (.string ⟨(encL encI l).toArray⟩) ∧ Grows w w' := by
  go_enter Tryd.func16, Tryd.ntmps16
  go_wp2_with fail
  refine (list_ints v l w hv hl hb E).mono ?_
  rintro e w1 ⟨rfl, g⟩
  go_wp2_with fail
  go_ret
  exact ⟨rfl, g⟩

set_option maxHeartbeats 400000 in
theorem wtexts_any (v : Value) (l : List (List UInt8)) (w : World) (hv : Row w v (strs l)) (hb : (l.flatMap encT).length + 2 ≤ 140737488355328) (E : Env w) :
    Calls Tryd.prog 18 #[v] w fun e w' => e = .returned (.string ⟨(encL encT l).toArray⟩) ∧ Grows w w' := by
  go_enter Tryd.func18, Tryd.ntmps18
  go_wp2_with fail
  refine (list_strs v l w hv hb E).mono ?_
  rintro e w1 ⟨rfl, g⟩
  go_wp2_with fail
  go_ret
  exact ⟨rfl, g⟩

end Go.Proofs.YtjiljkiedidmeaaDoor
