/- The laws' own helper that shortens a list of strings. -/
import Derived.Test.YtjiljkiedidmeaaDoorRLists
import Derived.Deep.RegionHeld3
import Derived.Deep.AppendLies
namespace Go.Proofs.YtjiljkiedidmeaaDoor
open Go.RowKit Go.Lib

/-- At most 20 strings of at most 100 bytes. -/
def cutOf (l : List (List UInt8)) : List (List UInt8) := (l.take 20).map (·.take 100)

theorem min_nat (n c : Nat) : min (n : Int) (c : Int) = ((min n c : Nat) : Int) := by omega
theorem extract_take (l : List UInt8) (c : Nat) : ByteArray.extract ⟨l.toArray⟩ 0 (min l.length c) = ⟨(l.take c).toArray⟩ := by
  apply ByteArray.ext
  rw [ByteArray.data_extract]
  apply Array.ext'
  simp [Nat.min_comm]
theorem info9 : (Tryd.prog.info? 9).map (fun i => (i.zero, i.size, i.bytes)) = some (some (.string ⟨#[]⟩), 1, 16) := by kernel_rfl

/-- What the call owns reads as its values. -/
theorem Row.of_owns {w : World} {B e n : Nat} {v : Value} {xs : List Value} (h : w.ownsRow B e 1 v n xs) : Row w v xs := by
  have hn : xs.length = n := by simpa using h.1
  have hc := fun g hg => h.cells (g := g) hg
  rcases h.2 with ⟨rfl, h0⟩ | ⟨g, cap, cur, rfl, h1, h2, h3, h4, h5, h6⟩
  · have : xs = [] := List.eq_nil_of_length_eq_zero (by omega)
    subst this
    exact Row.nil w
  · refine ⟨_, cap, by rw [hn], by omega, by unfold maxLen at h4; omega, .inr ⟨g, 0, rfl, ?_⟩⟩
    intro i u hu
    have := hc g rfl i u hu
    rw [Addr.add_lit] at this
    exact this
theorem cutOf_step (l : List (List UInt8)) (k : Nat) (h : k < l.length) : strs ((l.take (k + 1)).map (·.take 100)) = strs ((l.take k).map (·.take 100)) ++ [str (l[k].take 100)] := by
  rw [List.take_succ_eq_append_getElem h, List.map_append]
  unfold strs
  rw [List.map_append]
  rfl

set_option maxRecDepth 100000 in
set_option maxHeartbeats 1000000 in
theorem cut_own (v : Value) (l : List (List UInt8)) (w : World) (hv : Row w v (strs l)) (hl : ∀ s ∈ l, (s.length : Int) ≤ 9223372036854775807) :
    Calls Tryd.prog 11 #[v] w fun e w' => ∃ v' n, e = .returned v' ∧ w'.ownsRow w.heap.size 9 1 v' n (strs (cutOf l)) ∧ Grows w w' := by
  obtain ⟨i0, hi, hz0, hz1, hz2⟩ := info_parts info9
  obtain ⟨a, cap, rfl, hc1, hc2, hrow⟩ := hv
  rw [strs_length] at hc1
  rw [strs_length]
  have b0 : Grows w w := Below.refl _ _
  have o0 : w.ownsRow w.heap.size 9 1 (.slice none 0 0) 0 (strs ((l.take 0).map (·.take 100))) := World.ownsRow_nil _ _ _ _
  go_enter Tryd.func11, Tryd.ntmps11
  go_wp2_with fail
  go_loopw [3, 4] (fun s i wr => ∃ k : Nat, k ≤ l.length ∧ k ≤ 20 ∧ i = .int .i64 k ∧ wr.ownsRow w.heap.size 9 1 s k (strs ((l.take k).map (·.take 100))) ∧ Grows w wr) (fun _ i _ => l.length - (RowKit.intOf i).toNat)
  case atStart => exact ⟨0, Nat.zero_le _, Nat.zero_le _, rfl, o0, b0⟩
  case round =>
    clear b0 o0
    obtain ⟨k, hk, hk20, rfl, o1, b1⟩ := hrel
    have hs1 := b1.size
    by_cases hlt : k < l.length
    · by_cases h20 : k < 20
      · rcases hrow with h0 | ⟨b, o, rfl, hcell⟩
        · rw [show l = [] from List.map_eq_nil_iff.1 h0] at hlt
          simp at hlt
        · have hcell0 := hcell k (str l[k]) (by unfold strs; rw [List.getElem?_map, List.getElem?_eq_getElem hlt]; rfl)
          have hcell1 : wr.cell? ⟨b, o + k, none⟩ = some (str l[k]) := (b1.cell (World.block_lt_of_cell? w _ hcell0)).trans hcell0
          have hln := hl l[k] (List.getElem_mem hlt)
          have hbl : b < w.heap.size := World.block_lt_of_cell? w _ hcell0
          have hne : u3.ownBlock ≠ some b := fun e => by have := (o1.lt b e).1; omega
          have hst := Lib.hid (cutOf_step l k hlt)
          clear hcell hcell0 hl
          generalize l[k] = n at *
          unfold str at hcell1
          have hm : min (n.length : Int) 100 = ((min n.length 100 : Nat) : Int) := min_nat _ 100
          have hx := extract_take n 100
          have hm1 : (0 : Int) ≤ ((min n.length 100 : Nat) : Int) := by omega
          have hm2 : ((min n.length 100 : Nat) : Int) ≤ (n.length : Int) := by omega
          generalize min n.length 100 = m at *
          go_wp2_with fail
          go_region_held3 (fun w' => w'.cell? ⟨b, o + k, none⟩ = some (.string ⟨n.toArray⟩)) (first | go_keep | (rw [hgrow.cell_far _ (by simp; omega) (Ne.symm hne)]; assumption))
            ((refine step_append_lies _ (by rfl) _ _ _ (by rfl) w.heap.size 9 i0 _ 1 16 Tryd.underlying23 hi hz0 hz1 hz2 rfl (by omega) _ k _ (by rfl) ((o1.alloc _).drew)
                ⟨wr.heap.size, 0, none⟩ 1 1 [str (n.take 100)] (by rfl) (by rfl) (World.news_of_block (cs := #[str (n.take 100)]) (t := 9) (fr := (0, 0)) (heap_alloc_new wr.drew _)) (by simp [str, Value.oneCell'])
                (by omega) (by unfold maxLen; omega) (by omega) (by simp; omega) (wr.heap.size + 1) (by simp) ?_; intro gg cap w1 hown1 hgrow hat hlt))
          rw [← hst.out] at hown1
          have b2 : Grows w w1 := (((b1.alloc hs1 (.cells #[.string ⟨(n.take 100).toArray⟩] 9)).drew).grown hgrow (by simp; omega) (fun j hj => (o1.lt j hj).1))
          clear hm hx hcell1 hst hgrow o1 b1 hat hlt hne
          go_wp2_with fail
          go_roundw
          case rel => exact ⟨k + 1, by omega, by omega, by go_num, hown1, b2⟩
          case measure => simp [RowKit.intOf]; omega
      · obtain rfl : k = 20 := by omega
        go_wp2_with fail
        go_ret
        exact ⟨_, _, rfl, o1, b1⟩
    · obtain rfl : k = l.length := by omega
      have e : cutOf l = (l.take l.length).map (·.take 100) := by unfold cutOf; rw [List.take_of_length_le hk20, List.take_length]
      have E := Lib.hid e
      clear e
      go_wp2_with fail
      go_ret
      exact ⟨_, _, rfl, by rw [E.out]; exact o1, b1⟩

theorem cut_any (v : Value) (l : List (List UInt8)) (w : World) (hv : Row w v (strs l)) (hl : ∀ s ∈ l, (s.length : Int) ≤ 9223372036854775807) :
    Calls Tryd.prog 11 #[v] w fun e w' => ∃ v', e = .returned v' ∧ Row w' v' (strs (cutOf l)) ∧ Grows w w' := by
  refine (cut_own v l w hv hl).mono ?_
  rintro e w' ⟨v', n, rfl, o, g⟩
  exact ⟨v', rfl, Row.of_owns o, g⟩

end Go.Proofs.YtjiljkiedidmeaaDoor
