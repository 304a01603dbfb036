/- The laws' own helpers: strings and lists that are cut, a byte that is changed, and lists that are compared. -/
import Derived.Test.YtmgkbkpfhpkbcaaRef
namespace Go.Proofs.Ytmgkbkpfhpkbcaa
open Go.RowKit Go.Lib

/-- At most 20 strings of at most 30 bytes. -/
def listOf (l : List (List UInt8)) : List (List UInt8) := (l.take 20).map (·.take 30)

theorem min_nat (n c : Nat) : min (n : Int) (c : Int) = ((min n c : Nat) : Int) := by omega
theorem min_if (n c : Nat) : (if (c : Int) < (n : Int) then (c : Int) else (n : Int)) = ((min n c : Nat) : Int) := by split <;> omega
theorem extract_take (l : List UInt8) (c : Nat) : ByteArray.extract ⟨l.toArray⟩ 0 (min l.length c) = ⟨(l.take c).toArray⟩ := by
  apply ByteArray.ext
  rw [ByteArray.data_extract]
  apply Array.ext'
  simp [Nat.min_comm]
theorem info9 : (Try.prog.info? 9).map (fun i => (i.zero, i.size, i.bytes)) = some (some (.string ⟨#[]⟩), 1, 16) := by kernel_rfl

/-- What the call owns reads as its values. -/
theorem Row.of_owns {w : World} {B e n : Nat} {v : Value} {xs : List Value} (h : w.ownsRow B e 1 v n xs) : Row w v xs := by
  have hn : xs.length = n := by simpa using h.1
  have hc := fun g hg => h.cells (g := g) hg
  rcases h.2 with ⟨rfl, h0⟩ | ⟨g, cap, cur, rfl, h1, h2, h3, h4, h5, h6⟩
  · have : xs = [] := List.eq_nil_of_length_eq_zero (by omega)
    subst this
    exact Row.nil w
  · refine ⟨_, cap, by rw [hn], by omega, by unfold maxLen at h4; omega, .inr ⟨g, 0, rfl, ?_⟩⟩
    intro i u hu
    have := hc g rfl i u hu
    rw [Addr.add_lit] at this
    exact this
theorem listOf_step (l : List (List UInt8)) (k : Nat) (h : k < l.length) : strs ((l.take (k + 1)).map (·.take 30)) = strs ((l.take k).map (·.take 30)) ++ [str (l[k].take 30)] := by
  rw [List.take_succ_eq_append_getElem h, List.map_append]
  unfold strs
  rw [List.map_append]
  rfl

set_option maxRecDepth 30000 in
set_option maxHeartbeats 300000 in
theorem list_own (v : Value) (l : List (List UInt8)) (w : World) (hv : Row w v (strs l)) (hl : ∀ s ∈ l, (s.length : Int) ≤ 9223372036854775807) :
    Calls Try.prog 22 #[v] w fun e w' => ∃ v' n, e = .returned v' ∧ w'.ownsRow w.heap.size 9 1 v' n (strs (listOf l)) ∧ Grows w w' := by
  obtain ⟨i0, hi, hz0, hz1, hz2⟩ := info_parts info9
  obtain ⟨a, cap, rfl, hc1, hc2, hrow⟩ := hv
  rw [strs_length] at hc1
  rw [strs_length]
  have b0 : Grows w w := Below.refl _ _
  have o0 : w.ownsRow w.heap.size 9 1 (.slice none 0 0) 0 (strs ((l.take 0).map (·.take 30))) := World.ownsRow_nil _ _ _ _
  go_enter Try.func22, Try.ntmps22
  go_wp2_with fail
  go_loopw [3, 4] (fun s i wr => ∃ k : Nat, k ≤ l.length ∧ k ≤ 20 ∧ i = .int .i64 k ∧ wr.ownsRow w.heap.size 9 1 s k (strs ((l.take k).map (·.take 30))) ∧ Grows w wr) (fun _ i _ => l.length - (RowKit.intOf i).toNat)
  case atStart => exact ⟨0, Nat.zero_le _, Nat.zero_le _, rfl, o0, b0⟩
  case round =>
    clear b0 o0
    obtain ⟨k, hk, hk20, rfl, o1, b1⟩ := hrel
    have hs1 := b1.size
    by_cases hlt : k < l.length
    · by_cases h20 : k < 20
      · rcases hrow with h0 | ⟨b, o, rfl, hcell⟩
        · rw [show l = [] from List.map_eq_nil_iff.1 h0] at hlt
          simp at hlt
        · have hcell0 := hcell k (str l[k]) (by unfold strs; rw [List.getElem?_map, List.getElem?_eq_getElem hlt]; rfl)
          have hcell1 : wr.cell? ⟨b, o + k, none⟩ = some (str l[k]) := (b1.cell (World.block_lt_of_cell? w _ hcell0)).trans hcell0
          have hln := hl l[k] (List.getElem_mem hlt)
          have hbl : b < w.heap.size := World.block_lt_of_cell? w _ hcell0
          have hne : u3.ownBlock ≠ some b := fun e => by have := (o1.lt b e).1; omega
          have hst := Lib.hid (listOf_step l k hlt)
          clear hcell hcell0 hl
          generalize l[k] = n at *
          unfold str at hcell1
          have hm : (if (30 : Int) < (n.length : Int) then (30 : Int) else (n.length : Int)) = ((min n.length 30 : Nat) : Int) := min_if n.length 30
          have hx := extract_take n 30
          have hm1 : (0 : Int) ≤ ((min n.length 30 : Nat) : Int) := by omega
          have hm2 : ((min n.length 30 : Nat) : Int) ≤ (n.length : Int) := by omega
          generalize min n.length 30 = m at *
          go_wp2_with fail
          go_region_held3 (fun w' => w'.cell? ⟨b, o + k, none⟩ = some (.string ⟨n.toArray⟩)) (first | go_keep | (rw [hgrow.cell_far _ (by simp; omega) (Ne.symm hne)]; assumption))
            ((refine step_append_lies _ (by rfl) _ _ _ (by rfl) w.heap.size 9 i0 _ 1 16 Try.underlying28 hi hz0 hz1 hz2 rfl (by omega) _ k _ (by rfl) ((o1.alloc _).drew)
                ⟨wr.heap.size, 0, none⟩ 1 1 [str (n.take 30)] (by rfl) (by rfl) (World.news_of_block (cs := #[str (n.take 30)]) (t := 9) (fr := (0, 0)) (heap_alloc_new wr.drew _)) (by simp [str, Value.oneCell'])
                (by omega) (by unfold maxLen; omega) (by omega) (by simp; omega) (wr.heap.size + 1) (by simp) ?_; intro gg cap w1 hown1 hgrow hat hlt))
          rw [← hst.out] at hown1
          have b2 : Grows w w1 := (((b1.alloc hs1 (.cells #[.string ⟨(n.take 30).toArray⟩] 9)).drew).grown hgrow (by simp; omega) (fun j hj => (o1.lt j hj).1))
          clear hm hx hcell1 hst hgrow o1 b1 hat hlt hne
          go_wp2_with fail
          go_roundw
          case rel => exact ⟨k + 1, by omega, by omega, by go_num, hown1, b2⟩
          case measure => simp [RowKit.intOf]; omega
      · obtain rfl : k = 20 := by omega
        go_wp2_with fail
        go_ret
        exact ⟨_, _, rfl, o1, b1⟩
    · obtain rfl : k = l.length := by omega
      have e : listOf l = (l.take l.length).map (·.take 30) := by unfold listOf; rw [List.take_of_length_le hk20, List.take_length]
      have E := Lib.hid e
      clear e
      go_wp2_with fail
      go_ret
      exact ⟨_, _, rfl, by rw [E.out]; exact o1, b1⟩


theorem list_any (v : Value) (l : List (List UInt8)) (w : World) (hv : Row w v (strs l)) (hl : ∀ s ∈ l, (s.length : Int) ≤ 9223372036854775807) :
    Calls Try.prog 22 #[v] w fun e w' => ∃ v', e = .returned v' ∧ Row w' v' (strs (listOf l)) ∧ Grows w w' := by
  refine (list_own v l w hv hl).mono ?_
  rintro e w' ⟨v', n, rfl, o, g⟩
  exact ⟨v', rfl, Row.of_owns o, g⟩

attribute [local go_sem] str
set_option maxHeartbeats 400000 in
theorem cut_any (s : List UInt8) (w : World) (h : (s.length : Int) ≤ 9223372036854775807) :
    Calls Try.prog 11 #[str s] w fun e w' => e = .returned (str (s.take 200)) ∧ w = w' := by
  have hm : (if (200 : Int) < (s.length : Int) then (200 : Int) else (s.length : Int)) = ((min s.length 200 : Nat) : Int) := min_if s.length 200
  have hx := extract_take s 200
  have hm1 : (0 : Int) ≤ ((min s.length 200 : Nat) : Int) := by omega
  have hm2 : ((min s.length 200 : Nat) : Int) ≤ (s.length : Int) := by omega
  generalize min s.length 200 = m at *
  go_enter Try.func11, Try.ntmps11
  go_wp2_with fail
  go_ret
  exact ⟨rfl, rfl⟩

set_option maxHeartbeats 400000 in
theorem same_any (v u : Value) (a b : List (List UInt8)) (w : World) (hv : Row w v (strs a)) (hu : Row w u (strs b)) :
    Calls Try.prog 25 #[v, u] w fun e w' => e = .returned (.bool (decide (a = b))) ∧ Grows w w' := by
  obtain ⟨p, cap, rfl, hc1, hc2, hrow⟩ := hv
  obtain ⟨p', cap', rfl, hc1', hc2', hrow'⟩ := hu
  rw [strs_length] at hc1 hc1'
  rw [strs_length, strs_length]
  by_cases hlen : a.length = b.length
  · have h1 : ((a.length : Int) != (b.length : Int)) = false := by simp [hlen]
    have HL := Lib.hid hlen
    clear hlen
    have g0 : Grows w w := Below.refl _ _
    go_enter Try.func25, Try.ntmps25
    go_wp2_with fail
    go_loopw [5] (fun i wr => ∃ k : Nat, k ≤ a.length ∧ i = .int .i64 k ∧ a.take k = b.take k ∧ Grows w wr) (fun i _ => a.length - (RowKit.intOf i).toNat)
    case atStart => exact ⟨0, Nat.zero_le _, rfl, rfl, g0⟩
    case round =>
      clear g0
      obtain ⟨k, hk, rfl, heq, g⟩ := hrel
      have HE := Lib.hid heq
      clear heq
      by_cases hlt : k < a.length
      · have hltb : k < b.length := by rw [← HL.out]; exact hlt
        rcases hrow with h0 | ⟨p1, o1, rfl, hcell⟩
        · rw [show a = [] from List.map_eq_nil_iff.1 h0] at hlt
          simp at hlt
        · rcases hrow' with h0 | ⟨p2, o2, rfl, hcell'⟩
          · rw [show b = [] from List.map_eq_nil_iff.1 h0] at hltb
            simp at hltb
          · have c1 := hcell k (str a[k]) (by unfold strs; rw [List.getElem?_map, List.getElem?_eq_getElem hlt]; rfl)
            have c2 := hcell' k (str b[k]) (by unfold strs; rw [List.getElem?_map, List.getElem?_eq_getElem hltb]; rfl)
            have d1 : wr.cell? ⟨p1, o1 + k, none⟩ = some (str a[k]) := (g.cell (World.block_lt_of_cell? w _ c1)).trans c1
            have d2 : wr.cell? ⟨p2, o2 + k, none⟩ = some (str b[k]) := (g.cell (World.block_lt_of_cell? w _ c2)).trans c2
            have HT : Hid (a[k] = b[k] → a.take (k + 1) = b.take (k + 1)) := Lib.hid (fun h => by rw [take_snoc a k hlt, take_snoc b k hltb, HE.out, h])
            have HN : Hid (a[k] ≠ b[k] → a ≠ b) := Lib.hid (fun h e => h (by subst e; rfl))
            clear c1 c2 hcell hcell'
            unfold str at d1 d2
            generalize a[k] = x at *
            generalize b[k] = y at *
            by_cases hxy : x = y
            · subst hxy
              go_wp2_with fail
              go_region_held3 (fun w' => w'.cell? ⟨p1, o1 + k, none⟩ = some (.string ⟨x.toArray⟩) ∧ w'.cell? ⟨p2, o2 + k, none⟩ = some (.string ⟨x.toArray⟩)) (go_keep) (fail)
              have g2 : Grows w wr.drew := g.drew
              go_wp2_with fail
              go_roundw
              case rel => exact ⟨k + 1, by omega, by go_num, by first | exact HT.out rfl | exact HT.out trivial, g2⟩
              case measure => simp [RowKit.intOf]; omega
            · have n1 : (x == y) = false := by simpa using hxy
              have n2 : (x != y) = true := by simpa using hxy
              have g2 : Grows w wr.drew := g.drew
              go_wp2_with fail
              go_region_held3 (fun w' => w'.cell? ⟨p1, o1 + k, none⟩ = some (.string ⟨x.toArray⟩) ∧ w'.cell? ⟨p2, o2 + k, none⟩ = some (.string ⟨y.toArray⟩)) (go_keep) (fail)
              go_wp2_with fail
              go_ret
              exact ⟨ret_b (decide_eq_false (HN.out hxy)).symm, g2⟩
      · obtain rfl : k = a.length := by omega
        have HA : Hid (a = b) := Lib.hid (by have := HE.out; rwa [List.take_length, HL.out, List.take_length] at this)
        go_wp2_with fail
        go_ret
        exact ⟨ret_b (decide_eq_true HA.out).symm, g⟩
  · have h1 : ((a.length : Int) != (b.length : Int)) = true := by simp; omega
    have HN := Lib.hid (fun e : a = b => hlen (by rw [e]))
    clear hlen
    go_enter Try.func25, Try.ntmps25
    go_wp2_with fail
    go_ret
    exact ⟨ret_b (decide_eq_false HN.out).symm, Below.refl _ _⟩

attribute [local go_sem] str
/-- A string in which one byte is another one. -/
def chg (at' c : Nat) (s : List UInt8) : List UInt8 := s.set (at' % s.length) (UInt8.ofNat c)

theorem put_back (q : List UInt8) (k : Nat) (c : UInt8) (h : k < q.length) : (ByteArray.extract ⟨q.toArray⟩ 0 k ++ ⟨[c].toArray⟩) ++ ByteArray.extract ⟨q.toArray⟩ (k + 1) q.length = ⟨(q.set k c).toArray⟩ := by
  apply ByteArray.ext
  rw [ByteArray.data_append, ByteArray.data_append, ByteArray.data_extract, ByteArray.data_extract]
  apply Array.ext'
  simp
  rw [List.set_eq_take_append_cons_drop, if_pos h, List.take_of_length_le (l := q.drop (k + 1)) (by simp)]

set_option linter.unusedSimpArgs false in
set_option maxHeartbeats 400000 in
theorem change_any (S : Value) (at' c : Nat) (s : List UInt8) (w : World) (hs : s.length ≤ 100000) (ha : at' < 256) (hc : c < 256) :
    Calls Try.prog 17 #[.agg #[S, .int .u8 (at' : Int), .int .u8 (c : Int)], str s] w fun e w' => e = .returned (str (chg at' c s)) ∧ Grows w w' := by
  rcases s with _ | ⟨x, s⟩
  · have e : chg at' c [] = [] := rfl
    rw [e]
    go_enter Try.func17, Try.ntmps17
    go_wp2_with fail
    go_ret
    exact ⟨rfl, by go_grown⟩
  · generalize hs' : x :: s = q at *
    have hq : 0 < q.length := by rw [← hs']; simp
    clear hs'
    have hlt : at' % q.length < q.length := Nat.mod_lt _ hq
    have hm : ((at' : Int)).tmod (q.length : Int) = ((at' % q.length : Nat) : Int) := by
      rw [Int.tmod_eq_emod_of_nonneg (by omega)]; rfl
    have e : chg at' c q = q.set (at' % q.length) (UInt8.ofNat c) := rfl
    have hE := Lib.hid e
    clear e
    generalize at' % q.length = k at *
    have b1 : (0 : Int) ≤ (k : Int) := by omega
    have b2 : (k : Int) ≤ (q.length : Int) := by omega
    have b3 : (k : Int) + 1 ≤ (q.length : Int) := by omega
    have b4 : IntKind.i64.wrap ((k : Int) + 1) = (k : Int) + 1 := IntWalk.i64_in _ (by omega)
    have b5 : ((k : Int) + 1).toNat = k + 1 := by omega
    have b6 : (0 : Int) ≤ (k : Int) + 1 := by omega
    go_enter Try.func17, Try.ntmps17
    go_wp2_with fail
    have c0 : (w.alloc (.cells #[S, .int .u8 (at' : Int), .int .u8 (c : Int)] 27)).cell? ⟨w.heap.size, 2, none⟩ = some (.int .u8 (c : Int)) := by rw [World.cell?_alloc_new]; rfl
    have g0 : Grows w (w.alloc (.cells #[S, .int .u8 (at' : Int), .int .u8 (c : Int)] 27)) := (Below.refl _ _).alloc (Nat.le_refl _) _
    generalize w.alloc (.cells #[S, .int .u8 (at' : Int), .int .u8 (c : Int)] 27) = W at *
    have CV : Hid (∀ (W' : World) (b : Nat), W'.cell? ⟨b, 0, none⟩ = some (.int .u8 (c : Int)) → (convert 32 9 (.slice (some ⟨b, 0, none⟩) 1 1)).run Try.prog W' = .ok (.string ⟨[UInt8.ofNat c].toArray⟩) W') := Lib.hid (fun W' b h =>
      run_convert_bytes_back (P := Try.prog) W' 32 9 5 ⟨b, 0, none⟩ 1 [UInt8.ofNat c] Try.underlying32 Try.underlying5 Try.underlying9 (fun j hj => by
        obtain rfl : j = 0 := by simpa using hj
        rw [Addr.add_mid, h, List.getElem_cons_zero, UInt8.toNat_ofNat_of_lt' hc]))
    have HX := put_back q k (UInt8.ofNat c) hlt
    have hlx : (ByteArray.extract ⟨q.toArray⟩ 0 k).size = k := by rw [ByteArray.size_extract]; show min k q.toArray.size - 0 = k; simp; omega
    have hly : (ByteArray.extract ⟨q.toArray⟩ (k + 1) q.length).size = q.length - (k + 1) := by rw [ByteArray.size_extract]; show min q.length q.toArray.size - (k + 1) = _; simp
    refine wp_region_noPanic ?_
    refine wp_region_held_drew (S := fun W => W.cell? ⟨w.heap.size, 2, none⟩ = some (.int .u8 (c : Int)) ∧ Grows w W) (by kernel_rfl) ⟨by rw [World.cell?_drew]; exact c0, g0.drew⟩ (fun hHeld => ?_)
    refine wpAnyT_begin [0, 1, 2, 3, 4, 8, 9, 10, 11] (by kernel_rfl) (by kernel_rfl) ?_
    refine wpAnyT_take (oi := ⟨some 16, Op.move (Operand.tmp 1), 9, _, _, none⟩) (v := .string ⟨q.toArray⟩) rfl (fun _ _ _ h => h) (by rfl) (by assumption) (fun wS hSw => ?_) ?_
    · obtain ⟨hSw, -⟩ := hSw; go_simp <;> omega
    simp only [Act.put, List.setIfInBounds_toArray, List.set_cons_zero, List.set_cons_succ]
    refine wpAnyT_take (oi := ⟨some 17, Op.move (Operand.tmp 5), 3, _, _, none⟩) (v := .int .i64 (k : Int)) rfl (fun _ _ _ h => h) (by rfl) (by assumption) (fun wS hSw => ?_) ?_
    · obtain ⟨hSw, -⟩ := hSw; go_simp <;> omega
    simp only [Act.put, List.setIfInBounds_toArray, List.set_cons_zero, List.set_cons_succ]
    refine wpAnyT_take (oi := ⟨some 18, Op.slice 9 (Operand.tmp 16) none (some (Operand.tmp 17)) none, 9, _, _, none⟩) (v := .string (ByteArray.extract ⟨q.toArray⟩ 0 k)) rfl (fun _ _ _ h => h) (by rfl) (by assumption) (fun wS hSw => ?_) ?_
    · obtain ⟨hSw, -⟩ := hSw; go_simp <;> omega
    simp only [Act.put, List.setIfInBounds_toArray, List.set_cons_zero, List.set_cons_succ]
    refine wpAnyT_take (oi := ⟨some 19, Op.fieldAddr 27 (Operand.tmp 2) 2, 0, _, _, none⟩) (v := .pointer (some ⟨w.heap.size, 2, none⟩)) rfl (fun _ _ _ h => h) (by rfl) (by assumption) (fun wS hSw => ?_) ?_
    · obtain ⟨hSw, -⟩ := hSw; go_simp <;> omega
    simp only [Act.put, List.setIfInBounds_toArray, List.set_cons_zero, List.set_cons_succ]
    refine wpAnyT_take (oi := ⟨some 20, Op.load 5 (Operand.tmp 19), 5, _, _, none⟩) (v := .int .u8 (c : Int)) rfl (fun _ _ _ h => h) (by rfl) (by assumption) (fun wS hSw => ?_) ?_
    · obtain ⟨hSw, -⟩ := hSw; go_simp <;> omega
    simp only [Act.put, List.setIfInBounds_toArray, List.set_cons_zero, List.set_cons_succ]
    refine wpAnyT_take (oi := ⟨some 24, Op.move (Operand.tmp 1), 9, _, _, none⟩) (v := .string ⟨q.toArray⟩) rfl (fun _ _ _ h => h) (by rfl) (by assumption) (fun wS hSw => ?_) ?_
    · obtain ⟨hSw, -⟩ := hSw; go_simp <;> omega
    simp only [Act.put, List.setIfInBounds_toArray, List.set_cons_zero, List.set_cons_succ]
    refine wpAnyT_take (oi := ⟨some 25, Op.move (Operand.tmp 5), 3, _, _, none⟩) (v := .int .i64 (k : Int)) rfl (fun _ _ _ h => h) (by rfl) (by assumption) (fun wS hSw => ?_) ?_
    · obtain ⟨hSw, -⟩ := hSw; go_simp <;> omega
    simp only [Act.put, List.setIfInBounds_toArray, List.set_cons_zero, List.set_cons_succ]
    refine wpAnyT_take (oi := ⟨some 26, Op.binOp BinOp.add 3 (Operand.tmp 25) (Operand.const (Value.int IntKind.i64 1)) 3, 3, _, _, none⟩) (v := .int .i64 ((k : Int) + 1)) rfl (fun _ _ _ h => h) (by rfl) (by assumption) (fun wS hSw => ?_) ?_
    · obtain ⟨hSw, -⟩ := hSw; go_simp <;> omega
    simp only [Act.put, List.setIfInBounds_toArray, List.set_cons_zero, List.set_cons_succ]
    refine wpAnyT_take (oi := ⟨some 27, Op.slice 9 (Operand.tmp 24) (some (Operand.tmp 26)) none none, 9, _, _, none⟩) (v := .string (ByteArray.extract ⟨q.toArray⟩ (k + 1) q.length)) rfl (fun _ _ _ h => h) (by rfl) (by assumption) (fun wS hSw => ?_) ?_
    · obtain ⟨hSw, -⟩ := hSw; go_simp <;> omega
    simp only [Act.put, List.setIfInBounds_toArray, List.set_cons_zero, List.set_cons_succ]
    refine wpAnyT_end ?_
    refine wpAnyH_listed #[true, true, true, true, true, false, false, false, true, true, true, true, false, false] (by kernel_rfl) ?_
    refine wpAnyH_ready (rs := [5]) (by kernel_rfl) (by simp) ?_
    refine AllReadyH.cons (o := ⟨some 21, Op.buildSlice 32 1 #[(0, Operand.tmp 20)], 32, _, _, none⟩) rfl (fun K hK => ?_) AllReadyH.nil
    go_simp
    clear hHeld
    refine hK.out _ _ (⟨by rw [World.cell?_drew, World.cell?_alloc_lt _ _ _ (World.block_lt_of_cell? _ _ c0)]; exact c0, (g0.alloc g0.size _).drew⟩) (fun hHeld => ?_)
    clear hK K
    try simp only [Act.put, List.setIfInBounds_toArray, List.set_cons_zero, List.set_cons_succ]
    refine wpAnyH_ready (rs := [6]) (by kernel_rfl) (by simp) ?_
    refine AllReadyH.cons (o := ⟨some 22, Op.convert 32 9 (Operand.tmp 21), 9, _, _, none⟩) rfl (fun K hK => ?_) AllReadyH.nil
    go_simp
    rw [CV.out _ _ (by rw [World.cell?_drew, World.cell?_alloc_new]; rfl)]
    simp only [Result.andThen]
    rw [Oper.upon_value]
    clear hHeld
    refine hK.out _ _ (⟨by rw [World.cell?_drew, World.cell?_alloc_lt _ _ _ (World.block_lt_of_cell? _ _ c0)]; exact c0, (g0.alloc g0.size _).drew⟩) (fun hHeld => ?_)
    clear hK K
    try simp only [Act.put, List.setIfInBounds_toArray, List.set_cons_zero, List.set_cons_succ]
    refine wpAnyT_begin [7, 12, 13] (by kernel_rfl) (by kernel_rfl) ?_
    refine wpAnyT_take (oi := ⟨some 23, Op.binOp BinOp.add 9 (Operand.tmp 18) (Operand.tmp 22) 9, 9, _, _, none⟩) (v := .string (ByteArray.extract ⟨q.toArray⟩ 0 k ++ ⟨[UInt8.ofNat c].toArray⟩)) rfl (fun _ _ _ h => h) (by rfl) (by assumption) (fun wS hSw => ?_) ?_
    · obtain ⟨hSw, -⟩ := hSw; go_simp <;> omega
    simp only [Act.put, List.setIfInBounds_toArray, List.set_cons_zero, List.set_cons_succ]
    refine wpAnyT_take (oi := ⟨some 28, Op.binOp BinOp.add 9 (Operand.tmp 23) (Operand.tmp 27) 9, 9, _, _, none⟩) (v := .string ⟨(q.set k (UInt8.ofNat c)).toArray⟩) rfl (fun _ _ _ h => h) (by rfl) (by assumption) (fun wS hSw => ?_) ?_
    · obtain ⟨hSw, -⟩ := hSw; go_simp <;> omega
    simp only [Act.put, List.setIfInBounds_toArray, List.set_cons_zero, List.set_cons_succ]
    refine wpAnyT_take (oi := ⟨some 4, Op.assign (Operand.tmp 28), 9, _, _, none⟩) (v := .string ⟨(q.set k (UInt8.ofNat c)).toArray⟩) rfl (fun _ _ _ h => h) (by rfl) (by assumption) (fun wS hSw => ?_) ?_
    · obtain ⟨hSw, -⟩ := hSw; go_simp <;> omega
    simp only [Act.put, List.setIfInBounds_toArray, List.set_cons_zero, List.set_cons_succ]
    refine wpAnyT_end ?_
    refine wpAnyH_done (by kernel_rfl) ?_ _
    refine NoPanic.normal ?_
    go_wp2
    go_ret
    exact ⟨by rw [hE.out]; rfl, (g0.alloc g0.size _).drew⟩

end Go.Proofs.Ytmgkbkpfhpkbcaa
