/- wire's cutNumber: the int at the beginning of a text. -/
import Derived.Test.YtjiljkiedidmeaaDoorCut
namespace Go.Proofs.YtjiljkiedidmeaaDoor
open Go.RowKit Go.Lib

theorem grows_bytes (w : World) (t : ByteArray) : Grows w (Lib.bytesWorld w 5 t) := Joins.below_bytesWorld _ w 5 t (Nat.le_refl _)

/-- What cutNumber answers. -/
def NumRes (v : Int) (r : List UInt8) (t : Bool) (w : World) (e : Ending) (w' : World) : Prop := e = .returned (.tuple #[.int .i64 v, .string ⟨r.toArray⟩, .bool t]) ∧ Grows w w'

set_option maxHeartbeats 400000 in
theorem cutnum_out (c : UInt8) (l : List UInt8) (w : World) (hl : l.length < 4294967281) (E : Env w) (h : c ∉ l) :
    Calls Tryd.prog 42 #[.string ⟨l.toArray⟩, .string ⟨#[c]⟩] w (NumRes 0 [] false w) := by
  obtain ⟨m, hm⟩ := E.max
  have hc := cut_no l c h
  go_enter Tryd.func42, Tryd.ntmps42
  go_wp2_with fail
  refine (Tryd.strings_Cut ⟨l.toArray⟩ ⟨#[c]⟩ m _ (by rw [size_of_list]; exact hl) hm).mono ?_
  rintro e w1 ⟨rfl, n, rfl⟩
  have g1 := grows_drewN w n
  generalize w.drewN n = w1 at *
  rw [hc]
  clear hc hm
  go_wp2_with fail
  go_ret3
  exact ⟨rfl, g1⟩

set_option maxHeartbeats 400000 in
theorem cutnum_syn (c : UInt8) (a r : List UInt8) (w : World) (hl : (a ++ c :: r).length < 4294967281) (E : Env w) (h : c ∉ a) (ha : atoiAll a = atoiAll []) :
    Calls Tryd.prog 42 #[.string ⟨(a ++ c :: r).toArray⟩, .string ⟨#[c]⟩] w (NumRes 0 [] false w) := by
  obtain ⟨m, hm⟩ := E.max
  have hc := cut_yes a r c h
  have hla : a.length ≤ (a ++ c :: r).length := by simp
  generalize a ++ c :: r = l at *
  go_enter Tryd.func42, Tryd.ntmps42
  go_wp2_with fail
  refine (Tryd.strings_Cut ⟨l.toArray⟩ ⟨#[c]⟩ m _ (by rw [size_of_list]; exact hl) hm).mono ?_
  rintro e w1 ⟨rfl, n, rfl⟩
  have g1 := grows_drewN w n
  generalize w.drewN n = w1 at *
  rw [hc]
  clear hc hm
  obtain ⟨tp, p, hs⟩ := (E.grows g1).syn
  go_wp2_with fail
  refine (Tryd.strconv_Atoi_syntax_var ⟨a.toArray⟩ (by rw [size_of_list]; omega) ha tp p _ hs).mono ?_
  rintro e w2 ⟨N, rfl, -, -, g2⟩
  have g2 := Grows.then g1 g2
  clear ha hs
  go_wp2_with fail
  go_ret3
  exact ⟨rfl, g2⟩

set_option maxHeartbeats 400000 in
theorem cutnum_rng (c : UInt8) (a r : List UInt8) (w : World) (hl : (a ++ c :: r).length < 4294967281) (E : Env w) (h : c ∉ a) (ha : atoiAll a = .range) :
    Calls Tryd.prog 42 #[.string ⟨(a ++ c :: r).toArray⟩, .string ⟨#[c]⟩] w (NumRes 0 [] false w) := by
  obtain ⟨m, hm⟩ := E.max
  have hc := cut_yes a r c h
  have hla : a.length ≤ (a ++ c :: r).length := by simp
  generalize a ++ c :: r = l at *
  go_enter Tryd.func42, Tryd.ntmps42
  go_wp2_with fail
  refine (Tryd.strings_Cut ⟨l.toArray⟩ ⟨#[c]⟩ m _ (by rw [size_of_list]; exact hl) hm).mono ?_
  rintro e w1 ⟨rfl, n, rfl⟩
  have g1 := grows_drewN w n
  generalize w.drewN n = w1 at *
  rw [hc]
  clear hc hm
  obtain ⟨tp, p, hs⟩ := (E.grows g1).rng
  go_wp2_with fail
  refine (Tryd.strconv_Atoi_range_var ⟨a.toArray⟩ (by rw [size_of_list]; omega) ha tp p _ hs).mono ?_
  rintro e w2 ⟨N, rfl, -, -, g2⟩
  have g2 := Grows.then g1 g2
  clear ha hs
  go_wp2_with fail
  go_ret3
  exact ⟨rfl, g2⟩

set_option maxHeartbeats 400000 in
theorem cutnum_eq (c : UInt8) (a r : List UInt8) (v : Int) (w : World) (hl : (a ++ c :: r).length < 4294967281) (E : Env w) (h : c ∉ a) (ha : atoiAll a = .ok v) (ht : (itoa v == a) = true) :
    Calls Tryd.prog 42 #[.string ⟨(a ++ c :: r).toArray⟩, .string ⟨#[c]⟩] w (NumRes v r true w) := by
  obtain ⟨m, hm⟩ := E.max
  have hv := atoi_in ha
  have hc := cut_yes a r c h
  have hla : a.length ≤ (a ++ c :: r).length := by simp
  generalize a ++ c :: r = l at *
  go_enter Tryd.func42, Tryd.ntmps42
  go_wp2_with fail
  refine (Tryd.strings_Cut ⟨l.toArray⟩ ⟨#[c]⟩ m _ (by rw [size_of_list]; exact hl) hm).mono ?_
  rintro e w1 ⟨rfl, n, rfl⟩
  have g1 := grows_drewN w n
  generalize w.drewN n = w1 at *
  rw [hc]
  clear hc hm
  go_wp2_with fail
  refine (Tryd.strconv_Atoi_ok ⟨a.toArray⟩ (by rw [size_of_list]; omega) v ha _).mono ?_
  rintro e w2 ⟨rfl, hw2⟩
  have g2 : Grows w w2 := by
    rcases hw2 with rfl | ⟨t, rfl⟩
    · exact g1
    · exact g1.then (grows_bytes _ _)
  clear hw2 ha
  go_wp2_with fail
  refine (Tryd.strconv_Itoa v hv.1 hv.2 _ (E.grows g2).tab).mono ?_
  rintro e w3 ⟨rfl, k, os, rfl⟩
  have g3 := g2.then (grows_grow w2 k os)
  generalize Sort.grow (w2.drewN k) os = w3 at *
  go_wp2_with fail
  go_ret3
  exact ⟨rfl, g3⟩

set_option maxHeartbeats 400000 in
theorem cutnum_ne (c : UInt8) (a r : List UInt8) (v : Int) (w : World) (hl : (a ++ c :: r).length < 4294967281) (E : Env w) (h : c ∉ a) (ha : atoiAll a = .ok v) (ht : (itoa v == a) = false) :
    Calls Tryd.prog 42 #[.string ⟨(a ++ c :: r).toArray⟩, .string ⟨#[c]⟩] w (NumRes 0 [] false w) := by
  obtain ⟨m, hm⟩ := E.max
  have hv := atoi_in ha
  have hc := cut_yes a r c h
  have hla : a.length ≤ (a ++ c :: r).length := by simp
  generalize a ++ c :: r = l at *
  go_enter Tryd.func42, Tryd.ntmps42
  go_wp2_with fail
  refine (Tryd.strings_Cut ⟨l.toArray⟩ ⟨#[c]⟩ m _ (by rw [size_of_list]; exact hl) hm).mono ?_
  rintro e w1 ⟨rfl, n, rfl⟩
  have g1 := grows_drewN w n
  generalize w.drewN n = w1 at *
  rw [hc]
  clear hc hm
  go_wp2_with fail
  refine (Tryd.strconv_Atoi_ok ⟨a.toArray⟩ (by rw [size_of_list]; omega) v ha _).mono ?_
  rintro e w2 ⟨rfl, hw2⟩
  have g2 : Grows w w2 := by
    rcases hw2 with rfl | ⟨t, rfl⟩
    · exact g1
    · exact g1.then (grows_bytes _ _)
  clear hw2 ha
  go_wp2_with fail
  refine (Tryd.strconv_Itoa v hv.1 hv.2 _ (E.grows g2).tab).mono ?_
  rintro e w3 ⟨rfl, k, os, rfl⟩
  have g3 := g2.then (grows_grow w2 k os)
  generalize Sort.grow (w2.drewN k) os = w3 at *
  go_wp2_with fail
  go_ret3
  exact ⟨rfl, g3⟩

theorem cutnum_yes {c : UInt8} {l r : List UInt8} {v : Int} (w : World) (hl : l.length < 4294967281) (E : Env w) (hc : 58 ≤ c.toNat) (h : num c l = some (v, r)) :
    Calls Tryd.prog 42 #[.string ⟨l.toArray⟩, .string ⟨#[c]⟩] w (NumRes v r true w) := by
  obtain ⟨hv, rfl⟩ := num_is h
  exact cutnum_eq c (itoa v) r v w hl E (itoa_free v c hc) (atoi_itoa hv) (by simp)

theorem cutnum_no {c : UInt8} {l : List UInt8} (w : World) (hl : l.length < 4294967281) (E : Env w) (hc : 58 ≤ c.toNat) (h : num c l = none) :
    Calls Tryd.prog 42 #[.string ⟨l.toArray⟩, .string ⟨#[c]⟩] w (NumRes 0 [] false w) := by
  rcases parted l c with h1 | ⟨a, r, rfl, h1⟩
  · exact cutnum_out c l w hl E h1
  · cases ha : atoiAll a with
    | range => exact cutnum_rng c a r w hl E h1 ha
    | ok v =>
      refine cutnum_ne c a r v w hl E h1 ha ?_
      rw [beq_eq_false_iff_ne]
      intro e
      exact num_none hc h v r (atoi_in ha) (by rw [e])
    | _ => exact cutnum_syn c a r w hl E h1 ha

end Go.Proofs.YtjiljkiedidmeaaDoor
