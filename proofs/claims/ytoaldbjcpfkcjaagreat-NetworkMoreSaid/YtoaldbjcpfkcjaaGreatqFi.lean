/- Which group a way is in. -/
import Derived.Test.YtoaldbjcpfkcjaaGreatqSg
namespace Go.Proofs.YtoaldbjcpfkcjaaGreat
open Go.RowKit Go.Lib

theorem lastAt_snoc (R : List (List Int)) (b : List Int) (x : Int) : lastAt (R ++ [b]) x = if b.contains x = true then (R.length : Int) else lastAt R x := by
  unfold lastAt
  rw [List.length_append, List.length_singleton, List.range_succ, List.filter_append]
  have e1 : ((List.range R.length).filter fun j => (((R ++ [b])[j]?).getD []).contains x) = (List.range R.length).filter fun j => ((R[j]?).getD []).contains x := by
    apply List.filter_congr
    intro j hj
    rw [List.getElem?_append_left (List.mem_range.1 hj)]
  rw [e1]
  have e2 : ((R ++ [b])[R.length]?).getD [] = b := by simp
  by_cases h : b.contains x = true
  · rw [if_pos h]
    have e3 : ([R.length].filter fun j => (((R ++ [b])[j]?).getD []).contains x) = [R.length] := by
      rw [List.filter_cons_of_pos (by rw [e2]; exact h), List.filter_nil]
    rw [e3, List.getLast?_append]
    rfl
  · rw [if_neg h]
    have e3 : ([R.length].filter fun j => (((R ++ [b])[j]?).getD []).contains x) = [] := by
      rw [List.filter_cons_of_neg (by rw [e2]; exact h), List.filter_nil]
    rw [e3, List.append_nil]
theorem manyAt_snoc (R : List (List Int)) (b : List Int) (x : Int) : manyAt (R ++ [b]) x = manyAt R x + b.count x := by unfold manyAt; simp
theorem many_take {R : List (List Int)} {k : Nat} {b : List Int} (h : R[k]? = some b) (q : Nat) (x : Int) : manyAt (R.take k) x + (b.take q).count x ≤ manyAt R x := by
  have e : R = R.take k ++ ([b] ++ R.drop (k + 1)) := by
    obtain ⟨h1, h2⟩ := List.getElem?_eq_some_iff.1 h
    rw [List.singleton_append, ← h2, ← List.drop_eq_getElem_cons h1, List.take_append_drop]
  have e2 : manyAt R x = manyAt (R.take k) x + (b.count x + manyAt (R.drop (k + 1)) x) := by
    conv => lhs; rw [e]
    unfold manyAt
    simp
  have e3 : (b.take q).count x ≤ b.count x := by
    have : b.count x = (b.take q).count x + (b.drop q).count x := by rw [← List.count_append, List.take_append_drop]
    omega
  omega
theorem take_snoc {α : Type} {R : List α} {k : Nat} {b : α} (h : R[k]? = some b) : R.take (k + 1) = R.take k ++ [b] := by rw [List.take_add_one, h]; rfl
theorem find_step {xs : List Int} {q : Nat} {y x k l : Int} (h : xs[q]? = some y) : (if (xs.take (q + 1)).contains x = true then k else l) = if (y == x) = true then k else if (xs.take q).contains x = true then k else l := by
  rw [take_snoc h]
  by_cases e : y = x
  · subst e; simp
  · have e2 : (y == x) = false := by simpa using e
    have e3 : ¬ x = y := fun h => e h.symm
    simp [e3, e2]
theorem count_step {xs : List Int} {q : Nat} {y x : Int} (h : xs[q]? = some y) : (xs.take (q + 1)).count x = (xs.take q).count x + if (y == x) = true then 1 else 0 := by
  rw [take_snoc h, List.count_append]
  by_cases e : y = x
  · subst e; simp
  · simp [e]
set_option maxRecDepth 100000 in
set_option maxHeartbeats 2000000 in
theorem find_any (v : Value) (gs : List (List Int)) (x : Int) (w : World) (hv : RowG w v gs) (hx : manyAt gs x ≤ 1000000) :
    Calls Tryz.prog 25 #[v, .int .i64 x] w fun e w' => e = .returned (.int .i64 (findP gs x)) ∧ w = w' := by
  obtain ⟨a, n, c, rfl, hn, hc1, hc2, hv⟩ := hv.form
  have HV := Lib.hid hv
  have HN := Lib.hid hn
  have HX := Lib.hid hx
  clear hv hn hx
  go_enter Tryz.func25, Tryz.ntmps25
  go_wp2_with fail
  go_loopw [5, 6, 7] (fun p t i wr => ∃ (k : Nat) (A M : Int), k ≤ n ∧ p = .int .i64 A ∧ t = .int .i64 M ∧ i = .int .i64 k ∧ Hid (A = lastAt (gs.take k) x ∧ M = manyAt (gs.take k) x) ∧ wr = w) (fun _ _ i _ => n - (RowKit.intOf i).toNat)
  case atStart => exact ⟨0, -1, 0, Nat.zero_le _, rfl, rfl, rfl, Lib.hid ⟨rfl, rfl⟩, rfl⟩
  case round =>
    obtain ⟨k, A, M, hk, rfl, rfl, rfl, HA, rfl⟩ := hrel
    by_cases hlt : k < n
    · have b1 : (k : Int) < n := by omega
      have b2 : (0 : Int) ≤ k := by omega
      have ku : (k : Int) + 1 ≤ 9223372036854775807 := by omega
      obtain ⟨xs, hxs⟩ : ∃ xs, gs[k]? = some xs := ⟨_, List.getElem?_eq_getElem (by rw [HN.out]; exact hlt)⟩
      obtain ⟨b, o, rfl, hq⟩ := HV.out.spot (by rw [HN.out]; omega)
      obtain ⟨p, hp, c0⟩ := hq k xs hxs
      obtain ⟨pa, m, pc, rfl, hm, hm1, hm2, hp⟩ := hp.form
      have HP := Lib.hid hp
      have HM := Lib.hid hm
      have HS := Lib.hid hxs
      clear hxs hq hp hm
      go_wp2_with fail
      go_loopw [5, 6, 8] (fun p t i W => ∃ (q : Nat) (A' M' : Int), q ≤ m ∧ p = .int .i64 A' ∧ t = .int .i64 M' ∧ i = .int .i64 q ∧ Hid (A' = (if (xs.take q).contains x = true then (k : Int) else A) ∧ M' = M + (xs.take q).count x) ∧ W = wr) (fun _ _ i _ => m - (RowKit.intOf i).toNat)
      case atStart => exact ⟨0, A, M, Nat.zero_le _, rfl, rfl, rfl, Lib.hid ⟨by simp, by simp⟩, rfl⟩
      case round =>
        obtain ⟨q, A', M', hq, rfl, rfl, rfl, HB, rfl⟩ := hrel
        by_cases hlq : q < m
        · have e1 : (q : Int) < m := by omega
          have e2 : (0 : Int) ≤ q := by omega
          have qu : (q : Int) + 1 ≤ 9223372036854775807 := by omega
          have hMb : M' + 1 ≤ 1000001 ∧ 0 ≤ M' := by
            have h1 := many_take HS.out q x
            have h2 := HB.out.2
            have h3 := HA.out.2
            have h4 := HX.out
            omega
          obtain ⟨hMb1, hMb0⟩ := hMb
          have hMw : IntKind.i64.wrap (M' + 1) = M' + 1 := by rw [IntKind.wrap_i64]; omega
          obtain ⟨y, hy⟩ : ∃ y, xs[q]? = some y := ⟨_, List.getElem?_eq_getElem (by rw [HM.out]; exact hlq)⟩
          obtain ⟨d, r, rfl, hd⟩ := HP.out.spot (by rw [HM.out]; omega)
          have x0 := hd q y hy
          have HY := Lib.hid hy
          clear hy hd
          by_cases hyx : (y == x) = true
          · have HQ := Lib.hid hyx
            go_wp2_with fail
            go_roundw
            case rel => exact ⟨q + 1, k, M' + 1, by omega, rfl, rfl, by go_num, Lib.hid ⟨by rw [find_step HY.out, if_pos HQ.out], by rw [count_step HY.out, if_pos HQ.out]; have := HB.out.2; omega⟩, by trivial⟩
            case measure => simp [RowKit.intOf]; omega
          · have hyx : (y == x) = false := by simpa using hyx
            have HQ := Lib.hid hyx
            go_wp2_with fail
            go_roundw
            case rel => exact ⟨q + 1, A', M', by omega, rfl, rfl, by go_num, Lib.hid ⟨by rw [find_step HY.out, if_neg (by rw [HQ.out]; simp)]; exact HB.out.1, by rw [count_step HY.out, if_neg (by rw [HQ.out]; simp)]; have := HB.out.2; omega⟩, by trivial⟩
            case measure => simp [RowKit.intOf]; omega
        · obtain rfl : q = m := by omega
          go_wp2_with fail
          go_roundw
          case rel => exact ⟨k + 1, A', M', by omega, rfl, rfl, by go_num, Lib.hid ⟨by rw [take_snoc HS.out, lastAt_snoc, List.length_take, HN.out, Nat.min_eq_left (by omega), ← HA.out.1, HB.out.1, ← HM.out, List.take_length], by rw [take_snoc HS.out, manyAt_snoc, HB.out.2, ← HM.out, List.take_length, HA.out.2]; omega⟩, by trivial⟩
          case measure => simp [RowKit.intOf]; omega
    · obtain rfl : k = n := by omega
      have HA' := Lib.hid (show A = lastAt gs x ∧ M = manyAt gs x by have := HA.out; rwa [← HN.out, List.take_length] at this)
      by_cases hM : M = 1
      · have z1 : (M == 1) = true := by rw [hM]; rfl
        have HZ := Lib.hid (show A = findP gs x by unfold findP; rw [if_pos (by have := HA'.out.2; omega)]; exact HA'.out.1)
        clear hM
        go_wp2_with fail
        go_ret
        exact ⟨by rw [HZ.out]; rfl, rfl⟩
      · have z1 : (M == 1) = false := by rw [beq_eq_false_iff_ne]; exact hM
        have HZ := Lib.hid (show -1 = findP gs x by unfold findP; rw [if_neg (by have := HA'.out.2; omega)])
        clear hM
        go_wp2_with fail
        go_ret
        exact ⟨by rw [← HZ.out]; rfl, rfl⟩
theorem find_is (v : Value) (gs : List (List Int)) (x r : Int) (h : findP gs x = r) (w : World) (hv : RowG w v gs) (hx : manyAt gs x ≤ 1000000) :
    Calls Tryz.prog 25 #[v, .int .i64 x] w fun e w' => e = .returned (.int .i64 r) ∧ w = w' := h ▸ find_any v gs x w hv hx

end Go.Proofs.YtoaldbjcpfkcjaaGreat
