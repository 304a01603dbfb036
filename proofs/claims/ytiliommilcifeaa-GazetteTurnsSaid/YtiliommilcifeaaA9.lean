/- Whether two lists of numbers are the same. -/
import Derived.Test.YtiliommilcifeaaO
namespace Go.Proofs.Ytiliommilcifeaa
open Go.RowKit Go.Lib Go.Sort
theorem i_flat (xs : List Int) : xs.flatMap tI.enc = xs.map (Value.int .i64) := by
  induction xs with
  | nil => rfl
  | cons c s ih => rw [List.flatMap_cons, ih]; rfl
theorem Row.num {w : World} {b o n c : Nat} {xs : List Int} (h : Row tI w (.slice (some ⟨b, o, none⟩) n c) xs) {k : Nat} {x : Int} (hk : xs[k]? = some x) : w.cell? ⟨b, o + k, none⟩ = some (.int .i64 x) := by
  obtain ⟨b', o', e, hq⟩ := h.spot tI_ok (by have := (List.getElem?_eq_some_iff.1 hk).1; omega)
  injection e with e; injection e with e1 e2; subst e1; subst e2
  have := hq k x 0 _ hk rfl
  simpa [tI] using this
set_option maxHeartbeats 1000000 in
theorem same_any (u v : Value) (xs ys : List Int) (w : World) (hu : Row tI w u xs) (hv : Row tI w v ys) :
    Calls Try.prog 20 #[u, v] w fun e w' => e = .returned (.bool (decide (xs = ys))) ∧ Lays w w' := by
  obtain ⟨a, n, c, rfl, hn, hc1, hc2, hu⟩ := hu.form
  obtain ⟨a', m, c', rfl, hm, hd1, hd2, hv⟩ := hv.form
  have HU := Lib.hid hu
  have HV := Lib.hid hv
  have HN := Lib.hid hn
  have HM := Lib.hid hm
  clear hu hv hn hm
  by_cases h : n = m
  · subst h
    go_enter Try.func20, Try.ntmps20
    go_wp2_with fail
    go_loopw [5] (fun i wx => ∃ k d : Nat, k ≤ n ∧ i = .int .i64 k ∧ wx = w.drewN d ∧ Hid (xs.take k = ys.take k)) (fun i _ => n - (RowKit.intOf i).toNat)
    case atStart => exact ⟨0, 0, Nat.zero_le _, rfl, rfl, Lib.hid rfl⟩
    case round =>
      obtain ⟨k, d, hk, rfl, rfl, HT⟩ := hrel
      by_cases hlt : k < n
      · obtain ⟨x, hx⟩ : ∃ x, xs[k]? = some x := ⟨_, List.getElem?_eq_getElem (by rw [HN.out]; exact hlt)⟩
        obtain ⟨y, hy⟩ : ∃ y, ys[k]? = some y := ⟨_, List.getElem?_eq_getElem (by rw [HM.out]; exact hlt)⟩
        obtain ⟨b, o, rfl, -⟩ := HU.out.spot tI_ok (by rw [HN.out]; omega)
        obtain ⟨b', o', rfl, -⟩ := HV.out.spot tI_ok (by rw [HM.out]; omega)
        obtain ⟨wr, hwr⟩ : ∃ wr, w.drewN d = wr := ⟨_, rfl⟩
        have c0 := (HU.out.later (Lays.of_drew w d).grows).num hx
        have d0 := (HV.out.later (Lays.of_drew w d).grows).num hy
        rw [hwr] at c0 d0 ⊢
        have HW := Lib.hid hwr
        have b1 : (k : Int) < n := by omega
        have b2 : (0 : Int) ≤ k := by omega
        obtain ⟨q1, q2⟩ := List.getElem?_eq_some_iff.1 hx
        obtain ⟨p1, p2⟩ := List.getElem?_eq_some_iff.1 hy
        by_cases he : x = y
        · have z0 : (x != y) = false := by simpa using he
          have HE := Lib.hid (show xs.take (k + 1) = ys.take (k + 1) by
            rw [List.take_succ_eq_append_getElem q1, List.take_succ_eq_append_getElem p1, HT.out, q2, p2, he])
          clear he q1 q2 p1 p2 hx hy hwr HT
          go_wp2_with fail
          go_quiet (fail)
          have HW2 := Lib.hid (show w.drewN (d + nq) = wr.drewN nq by rw [← HW.out, World.drewN_drewN])
          generalize wr.drewN nq = wz at *
          clear c0 d0 HW
          go_wp2_with fail
          go_roundw
          case rel => exact ⟨k + 1, _, by omega, by go_num, HW2.out.symm, HE⟩
          case measure => simp [RowKit.intOf]; omega
        · have z0 : (x != y) = true := by simpa using he
          have HE := Lib.hid (show false = decide (xs = ys) by
            symm; rw [decide_eq_false_iff_not]; intro q; apply he; rw [q, hy] at hx; exact (Option.some.inj hx).symm)
          clear he q1 q2 p1 p2 hx hy hwr HT
          go_wp2_with fail
          go_quiet (fail)
          have HW2 := Lib.hid (show w.drewN (d + nq) = wr.drewN nq by rw [← HW.out, World.drewN_drewN])
          generalize wr.drewN nq = wz at *
          clear c0 d0 HW
          go_wp2_with fail
          go_ret
          exact ⟨ret_b HE.out, HW2.out ▸ Lays.of_drew _ _⟩
      · obtain rfl : k = n := by omega
        have HE := Lib.hid (show true = decide (xs = ys) by
          symm; rw [decide_eq_true_eq]
          have := HT.out
          rw [List.take_of_length_le (by rw [HN.out]; exact Nat.le_refl _), List.take_of_length_le (by rw [HM.out]; exact Nat.le_refl _)] at this
          exact this)
        have HL := Lib.hid (Lays.of_drew w d)
        have b1 : ¬ ((k : Int) < k) := by omega
        generalize w.drewN d = wr at *
        clear HT
        go_wp2_with fail
        go_ret
        exact ⟨ret_b HE.out, HL.out⟩
  · have z0 : ((n : Int) != (m : Int)) = true := by rw [bne_iff_ne]; omega
    have HE := Lib.hid (show false = decide (xs = ys) by
      symm; rw [decide_eq_false_iff_not]; intro q; apply h; rw [← HN.out, ← HM.out, q])
    clear h
    go_enter Try.func20, Try.ntmps20
    go_wp2_with fail
    go_ret
    exact ⟨ret_b HE.out, Lays.of_drew w 0⟩
end Go.Proofs.Ytiliommilcifeaa
