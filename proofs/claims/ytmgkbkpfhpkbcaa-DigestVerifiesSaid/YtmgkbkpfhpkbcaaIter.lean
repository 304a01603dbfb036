/- digest.levels: what it hands back hands out the levels of the tree. -/
import Derived.Test.YtmgkbkpfhpkbcaaRange
namespace Go.Proofs.Ytmgkbkpfhpkbcaa
open Go.RowKit Go.Lib

attribute [local go_sem] str

/-- A level in memory. -/
def Lev (l : List (List UInt8)) (B g k : Nat) (W : World) : Prop := (∀ j d, (lev l k)[j]? = some d → W.rangeAt g (j * 8) (bc d)) ∧ g < W.heap.size ∧ B ≤ g ∧ Kd g W
def levV (l : List (List UInt8)) (g k : Nat) : Value := .slice (some ⟨g, 0, none⟩) (lev l k).length (lev l k).length

theorem Lev.later {l : List (List UInt8)} {B g k : Nat} {W W' : World} (h : Lev l B g k W) (gr : Grows W W') : Lev l B g k W' := ⟨fun j d hd => range_later (h.1 j d hd) gr h.2.1, Nat.lt_of_lt_of_le h.2.1 gr.size, h.2.2.1, h.2.2.2.later gr⟩
theorem Kd.putObj {g i : Nat} {W : World} {o o' : Obj} (h : Kd g W) (ho : W.heap[i]? = some o) (hc : o.isCells = false) : Kd g (W.putObj i o') := by
  obtain ⟨c, h⟩ := h
  refine ⟨c, (World.putObj_heap_other fun e => ?_).trans h⟩
  subst e
  rw [ho] at h
  cases h
  cases hc
theorem Lev.putObj {l : List (List UInt8)} {B : Nat} (g k : Nat) (W : World) (i : Nat) (o o' : Obj) (h : Lev l B g k W) (ho : W.heap[i]? = some o) (hc : o.isCells = false) : Lev l B g k (W.putObj i o') :=
  ⟨fun j d hd q u hu => cell_kept (h.1 j d hd q u hu) (grownBy_putObj' W i o') (fun r e => by cases e; exact ⟨o, ho, hc⟩), by rw [World.putObj_size]; exact h.2.1, h.2.2.1, Kd.putObj h.2.2.2 ho hc⟩

theorem levels_any (a : Option Addr) (n c : Nat) (w : World) : Calls Try.prog 37 #[.slice a n c] w fun e w' => e = .returned (.func (.func 43) #[] #[.pointer (some ⟨w.heap.size, 0, none⟩)]) ∧ w.alloc (.cells #[.slice a n c] 28) = w' := by
  go_enter Try.func37, Try.ntmps37
  go_wp2_with fail
  go_ret
  exact ⟨rfl, rfl⟩

set_option maxRecDepth 100000 in
set_option maxHeartbeats 1000000 in
theorem iter_seq (n : Nat) (L : List (List UInt8)) (v : Value) (B : Nat) (w0 : World) (hv : Row w0 v (strs L)) (hB : w0.cell? ⟨B, 0, none⟩ = some v) (hl : ∀ s ∈ L, s.length ≤ 1000) (h32 : L.length ≤ 32) :
    LvSeq n 43 #[.pointer (some ⟨B, 0, none⟩)] (lg L.length) (levV L) (Lev L w0.heap.size) w0 := by
  intro l J Jx W hW hJ hY h0
  have hB' : W.cell? ⟨B, 0, none⟩ = some v := (hW.cell (World.block_lt_of_cell? w0 _ hB)).trans hB
  have hv' := hv.later hW
  refine callsIn_of_wp Try.func43 rfl trivial ?_ rfl
  simp only [Try.ntmps43, List.size_toArray, List.length_cons, List.length_nil, Nat.reduceAdd, Nat.reduceSub, Array.replicate_succ, Array.replicate_zero, List.push_toArray, List.append_toArray, List.nil_append, List.cons_append]
  gi_wp2_with fail
  refine ⟨trivial, fun h => by simp [Fence.wide] at h, (callsIn_wide.2 (lowest_any v L W hv' hl h32)).mono ?_⟩
  rintro e W1 ⟨g, rfl, hr, hgB, ⟨hg, hkd⟩, g1⟩
  have hL1 : Lev L w0.heap.size g 0 W1 := ⟨hr, hg, Nat.le_trans hW.size hgB, hkd⟩
  have J1 := hJ 0 W W1 h0 g1
  have HJ := Lib.hid hJ
  have HY := Lib.hid hY
  clear hJ hY hr hg hkd hgB g1 h0 hB' hv' hv hB
  gi_wp2_with fail
  gi_loopw [3] (fun s wr => ∃ k g : Nat, k ≤ lg L.length ∧ s = levV L g k ∧ J k wr ∧ Lev L w0.heap.size g k wr) (fun s _ => lenOf s)
  case atStart => exact ⟨0, g, Nat.zero_le _, rfl, J1, hL1⟩
  case round =>
    clear J1 hL1
    obtain ⟨k, g, hk, rfl, hJk, hLk⟩ := hrel
    obtain ⟨fn, tmps, assign, body, hy, hR⟩ := HY.out k g wr hk hJk hLk
    unfold levV at hy ⊢
    clear hJk hLk
    by_cases h1 : 1 < (lev L k).length
    · have hk2 := lev_more h32 hk h1
      have H8 := Lib.hid (all8 L k)
      have H32 := Lib.hid (lev_le32 h32 k)
      have HN := Lib.hid (show lev L (k + 1) = upL (lev L k) from rfl)
      have HLen := Lib.hid (show (lev L (k + 1)).length < (lev L k).length by rw [HN.out, upL_length]; omega)
      gi_wp2_with fail
      refine ⟨fun h => by simp [Fence.wide] at h, hR.mono ?_⟩
      rintro e A (⟨rfl, hJ', hL'⟩ | ⟨rfl, hJx'⟩)
      · clear hR hy
        gi_wp2_with fail
        refine ⟨trivial, fun h => by simp [Fence.wide] at h, (callsIn_wide.2 (above_any g (lev L k) A hL'.1 hL'.2.1 H8.out H32.out)).mono ?_⟩
        rintro e A2 ⟨g2, rfl, hr, hgB, ⟨hg, hkd⟩, gr⟩
        rw [← HN.out] at hr ⊢
        have hL2 : Lev L w0.heap.size g2 (k + 1) A2 := ⟨hr, hg, Nat.le_trans (Nat.le_trans hL'.2.2.1 (Nat.le_of_lt hL'.2.1)) hgB, hkd⟩
        have hJ2 := HJ.out _ _ _ hJ' gr
        clear hJ' hL' hr hg hkd hgB gr
        gi_wp2_with fail
        go_roundw
        case rel => exact ⟨k + 1, g2, by omega, rfl, hJ2, hL2⟩
        case measure => exact HLen.out
      · clear hR hy
        gi_wp2_with fail
        go_end0
        exact ⟨⟨_, rfl⟩, .inr ⟨k, hk, hJx'⟩⟩
    · have hk2 := Lib.hid (lev_top h32 hk h1)
      gi_wp2_with fail
      refine ⟨fun h => by simp [Fence.wide] at h, hR.mono ?_⟩
      rintro e A (⟨rfl, hJ', hL'⟩ | ⟨rfl, hJx'⟩)
      · clear hR hy
        gi_wp2_with fail
        go_end0
        exact ⟨⟨_, rfl⟩, .inl (by rw [← hk2.out]; exact hJ')⟩
      · clear hR hy
        gi_wp2_with fail
        go_end0
        exact ⟨⟨_, rfl⟩, .inr ⟨k, hk, hJx'⟩⟩

end Go.Proofs.Ytmgkbkpfhpkbcaa
