/- The lowest level of digest's tree. -/
import Derived.Test.YtmgkbkpfhpkbcaaWidth
import Derived.Laws.MakeOwn
namespace Go.Proofs.Ytmgkbkpfhpkbcaa
open Go.RowKit Go.Lib

attribute [local go_sem] str

/-- A block of digests. -/
def Kd (g : Nat) (W : World) : Prop := ∃ c, W.heap[g]? = some (.cells c 52 (0, 0))
theorem Kd.later {g : Nat} {W W' : World} (h : Kd g W) (gr : Grows W W') : Kd g W' := by
  obtain ⟨c, hc⟩ := h
  exact ⟨c, (gr.block g (Array.getElem?_eq_some_iff.1 hc).1).trans hc⟩
theorem Kd.cell {g : Nat} {W : World} (h : Kd g W) (b o : Nat) (v : Value) : Kd g (W.setCell ⟨b, o, none⟩ v) := by
  obtain ⟨c, hc⟩ := h
  by_cases e : g = b
  · subst e
    obtain ⟨hlt, hk⟩ := Array.getElem?_eq_some_iff.1 hc
    refine ⟨c.setIfInBounds o v, ?_⟩
    show (W.heap.modify g _)[g]? = _
    rw [Array.getElem?_eq_getElem (by rw [Array.size_modify]; exact hlt), Array.getElem_modify_self, hk]
    rfl
  · exact ⟨c, (Below.heap_setCell W ⟨b, o, none⟩ v g e).trans hc⟩
theorem Kd.set {g : Nat} {W : World} (h : Kd g W) (b o : Nat) (vs : List Value) : Kd g (W.setCells b o vs) := by
  induction vs generalizing o W with
  | nil => exact h
  | cons v r ih => rw [World.setCells]; exact ih (h.cell b o v) _

theorem info52z : (Try.prog.info? 52).map (fun i => (i.zero, i.size, i.bytes)) = some (some (.agg #[.int .u8 0, .int .u8 0, .int .u8 0, .int .u8 0, .int .u8 0, .int .u8 0, .int .u8 0, .int .u8 0]), 8, 8) := by kernel_rfl
/-- A new row of digests. -/
theorem make8 (n : Nat) (hn : n ≤ 1000) (w : World) : ∃ w1, (Instr.makeSlice 62 (.int .i64 (n : Int)) (.int .i64 (n : Int))).run Try.prog w = .ok (.slice (some ⟨w.heap.size, 0, none⟩) n n) w1 ∧ Grows w w1 ∧ w.heap.size < w1.heap.size ∧ (∀ j, j < n → w1.there w.heap.size (j * 8) 8) ∧ Kd w.heap.size w1 := by
  obtain ⟨i0, hi, hz0, hz1, hz2⟩ := info_parts info52z
  have hr := run_make (P := Try.prog) w 62 52 i0 _ Try.underlying62 hi hz0 .i64 .i64 (n : Int) (n : Int) (by omega) (by omega) (by rw [hz2]; omega) (by omega)
  rw [Int.toNat_natCast, hz1] at hr
  refine ⟨_, hr, (Below.refl _ _).alloc (Nat.le_refl _) _, by simp, fun j hj k hk => ⟨?_, World.frozen?_alloc_new _ _ _ _⟩, ⟨_, heap_alloc_new w _⟩⟩
  rw [World.cell?_alloc_new, Array.getElem?_eq_getElem (by rw [size_madeCells]; omega)]
  rfl

/-- What stays while a level is written into a row of the call's own; k of its digests stand. -/
structure LC (w : World) (g b : Nat) (n : Nat) (r : List UInt8) (ds : List (List UInt8)) (k : Nat) (W : World) : Prop where
  done : ∀ j d, (ds.take k)[j]? = some d → W.rangeAt g (j * 8) (bc d)
  th : ∀ j, j < n → W.there g (j * 8) 8
  rb : W.rangeAt b 0 (bc r)
  gr : Grows w W
  hg : w.heap.size ≤ g
  hb : w.heap.size ≤ b
  ne : g ≠ b
  lg : g < W.heap.size
  lb : b < W.heap.size
  kd : Kd g W
theorem LC.later {w W W' : World} {g b n k : Nat} {r : List UInt8} {ds : List (List UInt8)} (h : LC w g b n r ds k W) (gr : Grows W W') : LC w g b n r ds k W' :=
  ⟨fun j d hd => range_later (h.done j d hd) gr h.lg, fun j hj => there_later (h.th j hj) gr h.lg, range_later h.rb gr h.lb, h.gr.then gr, h.hg, h.hb, h.ne, Nat.lt_of_lt_of_le h.lg gr.size, Nat.lt_of_lt_of_le h.lb gr.size, h.kd.later gr⟩
theorem LC.put {w W : World} {g b n k : Nat} {r : List UInt8} {ds : List (List UInt8)} (h : LC w g b n r ds k W) (h8 : ∀ d ∈ ds, d.length = 8) (hk : k < ds.length) (hkn : k < n) : LC w g b n r ds (k + 1) (W.setCells g (k * 8) (bc ds[k])) := by
  have hd8 := h8 ds[k] (List.getElem_mem hk)
  refine ⟨fun j d hd => ?_, fun j hj => World.there_setCells (h.th j hj) _ _ _, World.rangeAt_setCells_apart h.rb _ _ _ (.inl (Ne.symm h.ne)), grows_set h.gr h.hg, h.hg, h.hb, h.ne, by rw [set_size]; exact h.lg, by rw [set_size]; exact h.lb, h.kd.set _ _ _⟩
  rw [take_snoc ds k hk] at hd
  have hlk : (ds.take k).length = k := List.length_take_of_le (by omega)
  rcases Nat.lt_or_ge j k with hj | hj
  · rw [List.getElem?_append_left (by omega)] at hd
    have hd8' := h8 d (List.mem_of_mem_take (List.mem_of_getElem? hd))
    refine World.rangeAt_setCells_apart (h.done j d hd) _ _ _ (.inr (.inl ?_))
    rw [bc_length, hd8']; omega
  · rw [List.getElem?_append_right (by omega), hlk] at hd
    obtain rfl : j = k := by
      have := (List.getElem?_eq_some_iff.1 hd).1
      simp at this; omega
    rw [Nat.sub_self] at hd
    simp at hd
    rw [← hd]
    exact range_set (Lib.hid hd8) (h.th j hkn)

theorem lowL_at (l : List (List UInt8)) (k : Nat) (hk : k < (lowL l).length) : (lowL l)[k] = if h : k < l.length then leaf l[k] else rest := by
  unfold lowL at *
  by_cases h : k < l.length
  · rw [dif_pos h, List.getElem_append_left (by simpa using h), List.getElem_map]
  · rw [dif_neg h, List.getElem_append_right (by simpa using h), List.getElem_replicate]

set_option maxHeartbeats 1000000 in
theorem lowest_any (v : Value) (l : List (List UInt8)) (w : World) (hv : Row w v (strs l)) (hl : ∀ s ∈ l, s.length ≤ 1000) (h32 : l.length ≤ 32) :
    Calls Try.prog 44 #[v] w fun e w' => ∃ g, e = .returned (.slice (some ⟨g, 0, none⟩) (lowL l).length (lowL l).length) ∧ (∀ j d, (lowL l)[j]? = some d → w'.rangeAt g (j * 8) (bc d)) ∧ w.heap.size ≤ g ∧ (g < w'.heap.size ∧ Kd g w') ∧ Grows w w' := by
  obtain ⟨a, cap, rfl, hc1, hc2, hrow⟩ := hv
  rw [strs_length] at hc1
  rw [strs_length]
  have HM := Lib.hid (make8 (wd l.length) (Nat.le_trans (wd_le _) (by decide)))
  go_enter Try.func44, Try.ntmps44
  go_wp2_with fail
  refine (width_any l.length _ h32).mono ?_
  rintro e w' ⟨rfl, rfl⟩
  go_wp2_with fail
  obtain ⟨w1, e1, g1, s1, t1, kd1⟩ := HM.out w
  rw [e1]
  simp only [Result.andThen]
  rw [Oper.upon_value]
  have T1 := Lib.hid t1
  clear e1 HM t1
  have hlow := lowL_length l h32
  have HLow := Lib.hid hlow
  have H8 := Lib.hid (all8_low l)
  have hle : l.length ≤ (lowL l).length := by rw [hlow]; exact le_wd h32
  have hn32 : (lowL l).length ≤ 32 := by rw [hlow]; exact wd_le _
  rw [← hlow]
  rw [← hlow] at T1
  clear hlow HLow
  have hrest := Lib.hid (show dig [[5]].flatten = rest from rfl)
  have hr8 := Lib.hid (show rest.length = 8 from dig_length _)
  have HAt := Lib.hid (lowL_at l)
  generalize hR : rest = R at *
  clear hR
  go_wp2_with fail
  refine (of_any _ [[5]] _ (Row.made _ [[5]] (by simp only [strs, List.map_cons, List.map_nil]; rfl) (by simp only [List.length_cons, List.length_nil]) (by simp)) (by simp)).mono ?_
  rintro e w2 ⟨rfl, g2⟩
  rw [hrest.out]
  have g3 : Grows w1 w2 := Grows.then ((Below.refl _ _).alloc (Nat.le_refl _) _) g2
  have s3 := g3.size
  have C0 : LC w w.heap.size w2.heap.size (lowL l).length R (lowL l) 0 ((w2.alloc zero8).setCells w2.heap.size 0 (bc R)) := by
    refine ⟨fun j d hd => by simp at hd, fun j hj => World.there_setCells (World.there_alloc (there_later (T1.out j hj) g3 s1) _) _ _ _, range_set hr8 (there_zero w2), set_grows (g1.then g3) _, Nat.le_refl _, by omega, by omega, ?_, ?_, ((kd1.later g3).later ((Below.refl _ _).alloc (Nat.le_refl _) _)).set _ _ _⟩
    · rw [set_size, World.size_alloc]; omega
    · rw [set_size, World.size_alloc]; omega
  go_wp2_with (first | (refine store8 rfl _ _ rfl rfl rfl hr8 (there_zero _) ?_))
  generalize (w2.alloc zero8).setCells w2.heap.size 0 (bc R) = W2 at *
  have hg0 := Lib.hid (show w.heap.size ≤ w.heap.size from Nat.le_refl _)
  generalize hb : w2.heap.size = b4 at *
  clear g2 g3 s3 hb g1 s1 T1
  go_loopw [14] (fun i wr => ∃ k : Nat, k ≤ (lowL l).length ∧ i = .int .i64 k ∧ LC w w.heap.size b4 (lowL l).length R (lowL l) k wr) (fun i _ => (lowL l).length - (RowKit.intOf i).toNat)
  case atStart => exact ⟨0, Nat.zero_le _, rfl, C0⟩
  case round =>
    clear C0
    obtain ⟨k, hk, rfl, C⟩ := hrel
    by_cases hlt : k < (lowL l).length
    · have hd8 := Lib.hid (H8.out _ (List.getElem_mem hlt))
      have HP := Lib.hid (fun (W : World) (h : LC w w.heap.size b4 (lowL l).length R (lowL l) k W) => h.put H8.out hlt hlt)
      have hat := HAt.out k hlt
      by_cases hkl : k < l.length
      · rw [dif_pos hkl] at hat
        rcases hrow with h0 | ⟨b, o, rfl, hcell⟩
        · rw [show l = [] from List.map_eq_nil_iff.1 h0] at hkl
          simp at hkl
        · have hcell0 := hcell k (str l[k]) (by unfold strs; rw [List.getElem?_map, List.getElem?_eq_getElem hkl]; rfl)
          have hcell1 : wr.cell? ⟨b, o + k, none⟩ = some (str l[k]) := (C.gr.cell (World.block_lt_of_cell? w _ hcell0)).trans hcell0
          have hln := hl l[k] (List.getElem_mem hkl)
          have hE := Lib.hid (show dig [[3], l[k]].flatten = (lowL l)[k] by rw [hat]; simp [leaf])
          clear hcell hcell0 hat
          unfold str at hcell1
          generalize l[k] = s at *
          generalize (lowL l)[k] = D at *
          go_wp2_with fail
          refine (of_any _ [[3], s] _ (Row.made _ [[3], s] (by simp only [strs, List.map_cons, List.map_nil]; rfl) (by simp only [List.length_cons, List.length_nil]) (by simp)) (by simp; omega)).mono ?_
          rintro e w5 ⟨rfl, g5⟩
          rw [hE.out]
          have C5 := C.later (Grows.then ((Below.refl _ _).alloc (Nat.le_refl _) _) g5)
          clear C g5 hcell1
          have C6 := HP.out _ C5
          have t5 := C5.th k hlt
          go_wp2_with (first | (refine store8 rfl _ _ rfl rfl rfl hd8 t5 ?_))
          go_roundw
          case rel => exact ⟨k + 1, by omega, by go_num, C6⟩
          case measure => simp [RowKit.intOf]; omega
      · rw [dif_neg hkl] at hat
        have HQ := Lib.hid hat
        rw [HQ.out] at HP
        have C6 := HP.out _ C
        have t5 := C.th k hlt
        have r5 := C.rb
        clear hat hd8
        go_wp2_with (first | (refine load8 rfl _ rfl rfl hr8 r5 ?_) | (refine store8 rfl _ _ rfl rfl rfl hr8 t5 ?_))
        go_roundw
        case rel => exact ⟨k + 1, by omega, by go_num, C6⟩
        case measure => simp [RowKit.intOf]; omega
    · obtain rfl : k = (lowL l).length := by omega
      have hd := C.done
      rw [List.take_length] at hd
      have HD := Lib.hid hd
      clear hd
      go_wp2_with fail
      go_ret
      exact ⟨_, rfl, HD.out, Nat.le_refl _, ⟨C.lg, C.kd⟩, C.gr⟩

end Go.Proofs.Ytmgkbkpfhpkbcaa
