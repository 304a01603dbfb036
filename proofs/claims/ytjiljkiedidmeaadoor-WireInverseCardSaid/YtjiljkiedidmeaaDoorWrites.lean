/- WireWrites: the walk. -/
import Derived.Test.YtjiljkiedidmeaaDoorSane
import Derived.Deep.RegionHeld3
namespace Go.Proofs.YtjiljkiedidmeaaDoor
open Go.RowKit Go.Lib

theorem Row.first {w : World} {a : Option Addr} {n cap : Nat} {xs : List Value} (h : Row w (.slice a n cap) xs) (c : Nat) : Row w (.slice a (min n c) cap) (xs.take c) := by
  obtain ⟨a', cap', e, h1, h2, h3⟩ := h
  injection e with e1 e2 e3
  subst e1 e2 e3
  refine ⟨a, cap, by rw [List.length_take, Nat.min_comm], by rw [List.length_take]; omega, h2, ?_⟩
  rcases h3 with h3 | ⟨b, o, h4, h5⟩
  · exact .inl (by rw [h3]; simp)
  · refine .inr ⟨b, o, h4, ?_⟩
    intro i u hu
    rw [List.getElem?_take] at hu
    split at hu
    · exact h5 i u hu
    · cases hu
theorem ints_take (l : List Int) (c : Nat) : (ints l).take c = ints (l.take c) := by simp [ints]
theorem strs_take (l : List (List UInt8)) (c : Nat) : (strs l).take c = strs (l.take c) := by simp [strs]

/-- How long a serialization can be. -/
theorem flat_le {α : Type} (enc : α → List UInt8) (l : List α) (c : Nat) (h : ∀ x ∈ l, (enc x).length ≤ c) : (l.flatMap enc).length ≤ l.length * c := by
  induction l with
  | nil => simp
  | cons x l ih =>
    have h1 := h x (by simp)
    have h2 := ih (fun y hy => h y (by simp [hy]))
    rw [List.flatMap_cons, List.length_append, List.length_cons, Nat.add_mul, Nat.one_mul]
    omega
theorem encI_le {n : Int} (h : InI n) : (encI n).length ≤ 21 := by have := itoa_length h; unfold encI; simp; omega
theorem encT_le {s : List UInt8} {c : Nat} (h : s.length ≤ c) (hc : c ≤ 4611686018427387904) : (encT s).length ≤ c + 21 := by
  have := itoa_length (n := (s.length : Int)) ⟨by omega, by omega⟩
  unfold encT
  simp
  omega
theorem cutOf_mem {l : List (List UInt8)} {s : List UInt8} (h : s ∈ cutOf l) : s.length ≤ 100 := by
  unfold cutOf at h
  obtain ⟨x, _, rfl⟩ := List.mem_map.1 h
  rw [List.length_take]; omega
theorem cutOf_length (l : List (List UInt8)) : (cutOf l).length ≤ 20 := by unfold cutOf; simp; omega
theorem cutOf_bytes (l : List (List UInt8)) : ((cutOf l).flatMap encT).length ≤ 2420 := by
  have h1 := flat_le encT (cutOf l) 121 (fun x hx => encT_le (cutOf_mem hx) (by omega))
  have h2 := cutOf_length l
  have h3 : (cutOf l).length * 121 ≤ 20 * 121 := Nat.mul_le_mul_right _ h2
  omega
theorem ints_bytes {l : List Int} (hl : ∀ n ∈ l, InI n) (c : Nat) (hc : l.length ≤ c) : (l.flatMap encI).length ≤ c * 21 := by
  have h1 := flat_le encI l 21 (fun x hx => encI_le (hl x hx))
  have h2 : l.length * 21 ≤ c * 21 := Nat.mul_le_mul_right _ hc
  omega

set_option maxRecDepth 100000 in
set_option maxHeartbeats 2000000 in
theorem writes_walk (v0 v1 : Value) (l : List Int) (t : List (List UInt8)) (w : World) (E : Env w) (h0 : Row w v0 (ints l)) (h1 : Row w v1 (strs t)) (hl : ∀ n ∈ l, InI n) (ht : ∀ s ∈ t, (s.length : Int) ≤ 9223372036854775807) :
    Calls Tryd.prog 3 #[v0, v1] w fun e w' => e = .returned (.bool true) ∧ Grows w w' := by
  obtain ⟨a, cap, rfl, hc1, hc2, hrow⟩ := id h0
  rw [ints_length] at hc1 h0
  rw [ints_length]
  have hf := h0.first 40
  rw [ints_take] at hf
  have hll : (l.take 40).length ≤ 40 := by rw [List.length_take]; omega
  have hl40 : ∀ n ∈ l.take 40, InI n := fun n hn => hl n (List.mem_of_mem_take hn)
  have hlen : min l.length 40 = (l.take 40).length := by rw [List.length_take]; omega
  have hle : (l.take 40).length ≤ cap := by rw [List.length_take]; omega
  have hm : min (l.length : Int) 40 = (((l.take 40).length : Nat) : Int) := by rw [← hlen]; exact min_nat _ 40
  rw [hlen] at hf
  clear hlen h0 hrow
  generalize l.take 40 = L at *
  have HL := Lib.hid hl40
  have HT := Lib.hid ht
  clear hl hl40 ht
  go_enter Tryd.func3, Tryd.ntmps3
  go_wp2_with fail
  refine (sane _ E).mono ?_
  rintro e w1 ⟨rfl, g1⟩
  have h1 := h1.later g1
  have hf := hf.later g1
  go_wp2_with fail
  go_cut [0, 1] (fun s0 s1 wx => s0 = .slice a L.length cap ∧ (∃ a2 c2, s1 = .slice a2 (cutOf t).length c2) ∧ Row wx s1 (strs (cutOf t)) ∧ Grows w1 wx)
  case first =>
    go_region_held3 (fun _ => True) (exact trivial) (first | (go_at_call 11; refine (cut_any _ t _ (h1.later (Below.refl _ _).drew) HT.out).mono ?_; rintro e w2 ⟨v2, rfl, hr2, g2⟩))
    all_goals
      go_wp2_with fail
      go_meet
      refine ⟨rfl, ?_, hr2, (Below.refl _ _).drew.trans (g2.mono (by simp))⟩
      obtain ⟨a2, c2, e2, _⟩ := hr2
      rw [strs_length] at e2
      exact ⟨a2, c2, e2⟩
  case rest =>
    obtain ⟨rfl, ⟨a2, c2, rfl⟩, hr2, g2⟩ := hcut
    have hcm : ∀ s ∈ cutOf t, s.length ≤ 100 := fun s hs => cutOf_mem hs
    have hcl := cutOf_length t
    have hcb := cutOf_bytes t
    have hlb := ints_bytes HL.out 40 hll
    have hr1 := hf.later g2
    have g3 := g1.then g2
    clear h1 hf g1 g2 HT hm hc1 hc2
    generalize cutOf t = C at *
    have HC := Lib.hid hcm
    clear hcm
    obtain ⟨a1', c1', e1, f1, f2, r1⟩ := id hr1
    injection e1 with e1 e2 e3
    subst e1 e3
    clear e2
    obtain ⟨a2', c2', e1, f3, f4, r2⟩ := id hr2
    injection e1 with e1 e2 e3
    subst e1 e3
    clear e2
    rw [ints_length] at f1
    rw [strs_length] at f3
    go_wp2_with fail
    go_loopw [20] (fun x wr => ∃ k : Nat, k ≤ L.length ∧ x = .int .i64 k ∧ Grows wc wr) (fun x _ => L.length - (RowKit.intOf x).toNat)
    case atStart => exact ⟨0, Nat.zero_le _, rfl, Below.refl _ _⟩
    case round =>
      obtain ⟨k, hk, rfl, b1⟩ := hrel
      by_cases hlt : k < L.length
      · rcases r1 with h0 | ⟨b, o, rfl, hcell⟩
        · rw [show L = [] from List.map_eq_nil_iff.1 h0] at hlt
          simp at hlt
        · have e0 := hcell k (.int .i64 L[k]) (by unfold ints; rw [List.getElem?_map, List.getElem?_eq_getElem hlt]; rfl)
          have c1 : wr.cell? ⟨b, o + k, none⟩ = some (.int .i64 L[k]) := (b1.cell (World.block_lt_of_cell? wc _ e0)).trans e0
          have hn := HL.out L[k] (List.getElem_mem hlt)
          clear hcell e0
          generalize L[k] = n at *
          go_wp2_with fail
          refine (int_any n _ hn ((E.grows g3).grows b1)).mono ?_
          rintro e w2 ⟨rfl, g4⟩
          have b2 := b1.then g4
          clear c1
          go_wp2_with fail
          refine (rint_any n _ hn).mono ?_
          rintro e w3 ⟨rfl, g5⟩
          have b3 := b2.then g5
          go_wp2_with fail
          go_roundw
          case rel => exact ⟨k + 1, by omega, by go_num, b3⟩
          case measure => simp [RowKit.intOf]; omega
      · obtain rfl : k = L.length := by omega
        have g4 := g3.then b1
        have hr1 := hr1.later b1
        have hr2 := hr2.later b1
        go_wp2_with fail
        obtain ⟨wo, rfl⟩ : ∃ wo : World, wo = wr := ⟨_, rfl⟩
        clear b1 r1
        go_loopw [32] (fun x wx => ∃ k : Nat, k ≤ C.length ∧ x = .int .i64 k ∧ Grows wo wx) (fun x _ => C.length - (RowKit.intOf x).toNat)
        case atStart => exact ⟨0, Nat.zero_le _, rfl, Below.refl _ _⟩
        case round =>
          obtain ⟨k, hk2, rfl, b2⟩ := hrel
          by_cases hlt2 : k < C.length
          · rcases r2 with h0 | ⟨b, o, rfl, hcell⟩
            · rw [show C = [] from List.map_eq_nil_iff.1 h0] at hlt2
              simp at hlt2
            · have e0 := hcell k (str C[k]) (by unfold strs; rw [List.getElem?_map, List.getElem?_eq_getElem hlt2]; rfl)
              have e1 : wo.cell? ⟨b, o + k, none⟩ = some (str C[k]) := by
                obtain ⟨a', c', q1, -, -, q4⟩ := hr2
                injection q1 with q1 q2 q3
                subst q1
                rcases q4 with q4 | ⟨b', o', q5, q6⟩
                · rw [show C = [] from List.map_eq_nil_iff.1 q4] at hlt2
                  simp at hlt2
                · simp only [Option.some.injEq, Addr.mk.injEq] at q5
                  obtain ⟨rfl, rfl, -⟩ := q5
                  exact q6 k _ (by unfold strs; rw [List.getElem?_map, List.getElem?_eq_getElem hlt2]; rfl)
              have c1 : wr.cell? ⟨b, o + k, none⟩ = some (str C[k]) := (b2.cell (World.block_lt_of_cell? wo _ e1)).trans e1
              have hn := HC.out C[k] (List.getElem_mem hlt2)
              clear hcell e0 e1
              generalize C[k] = n at *
              unfold str at c1
              go_wp2_with fail
              refine (text_any ⟨n.toArray⟩ _ (by rw [size_of_list]; omega) ((E.grows g4).grows b2)).mono ?_
              rintro e w2 ⟨rfl, g5⟩
              have b3 := b2.then g5
              clear c1
              go_wp2_with fail
              refine (rtext_any ⟨n.toArray⟩ _ (by rw [size_of_list]; omega)).mono ?_
              rintro e w3 ⟨rfl, g6⟩
              have b4 := b3.then g6
              go_wp2_with fail
              go_roundw
              case rel => exact ⟨k + 1, by omega, by go_num, b4⟩
              case measure => simp [RowKit.intOf]; omega
          · obtain rfl : k = C.length := by omega
            have g5 := g4.then b2
            have hr1 := hr1.later b2
            have hr2 := hr2.later b2
            go_wp2_with fail
            refine (wints_any _ L _ hr1 HL.out (by omega) (E.grows g5)).mono ?_
            rintro e w5 ⟨rfl, g6⟩
            have hr1 := hr1.later g6
            have hr2 := hr2.later g6
            have g6 := g5.then g6
            go_wp2_with fail
            refine (rints_any _ L _ hr1 HL.out (by omega)).mono ?_
            rintro e w6 ⟨rfl, g7⟩
            have hr2 := hr2.later g7
            have g7 := g6.then g7
            go_wp2_with fail
            refine (wtexts_any _ C _ hr2 (by omega) (E.grows g7)).mono ?_
            rintro e w7 ⟨rfl, g8⟩
            have hr2 := hr2.later g8
            have g8 := g7.then g8
            go_wp2_with fail
            refine (rtexts_any _ C _ hr2 (by omega)).mono ?_
            rintro e w8 ⟨rfl, g9⟩
            have g9 := g8.then g9
            go_wp2_with fail
            go_ret
            exact ⟨rfl, g9⟩

end Go.Proofs.YtjiljkiedidmeaaDoor
