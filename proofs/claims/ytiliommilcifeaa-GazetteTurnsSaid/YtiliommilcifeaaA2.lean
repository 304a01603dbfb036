/- Names compared, folded; which are right. -/
import Derived.Test.YtiliommilcifeaaA1
import Derived.Test.YtiliommilcifeaaSh
import Derived.Laws.IdiomStrings
import Derived.Shelf.RegionOpen
namespace Go.Proofs.Ytiliommilcifeaa
open Go.RowKit Go.Lib Go.Sort

abbrev Grows (w w' : World) : Prop := Below w.heap.size w w'
theorem Grows.then {a b c : World} (h : Grows a b) (k : Grows b c) : Grows a c := Below.trans h (Below.mono k h.size)
/-- What only draws and lays blocks. -/
def Lays (w w' : World) : Prop := ∃ q os, w' = grow (w.drewN q) os
theorem Lays.grows {w w' : World} (h : Lays w w') : Grows w w' := by
  obtain ⟨q, os, rfl⟩ := h
  refine ⟨rfl, rfl, rfl, by simp [grow], fun k hk => ?_⟩
  simp [grow, Array.getElem?_append, show k < w.heap.size from hk]
theorem Lays.of_drew (w : World) (d : Nat) : Lays w (w.drewN d) := ⟨d, #[], by rw [grow_empty]⟩
theorem Lays.alloc {w w' : World} (h : Lays w w') (o : Obj) : Lays w (w'.alloc o) := by
  obtain ⟨q, os, rfl⟩ := h
  exact ⟨q, os ++ #[o], by rw [alloc_eq_grow, grow_grow]⟩

set_option maxHeartbeats 400000 in
theorem isnani_any (x : Int) (w : World) : Calls Try.prog 50 #[.int .i64 x] w fun e w' => e = .returned (.bool false) ∧ w = w' := by
  go_enter Try.func50, Try.ntmps50
  go_wp2
  go_ret
  exact ⟨rfl, rfl⟩
set_option maxHeartbeats 400000 in
theorem comparei_any (x y : Int) (w : World) : Calls Try.prog 34 #[.int .i64 x, .int .i64 y] w fun e w' => e = .returned (.int .i64 (cmpI x y)) ∧ w = w' := by
  unfold cmpI
  by_cases h1 : x < y
  · have b1 : decide (x < y) = true := decide_eq_true h1
    rw [if_pos h1]
    go_enter Try.func34, Try.ntmps34
    go_wp2_with (go_at_call 50; refine (isnani_any _ _).mono ?_; rintro e w' ⟨rfl, rfl⟩)
    go_ret
    exact ⟨rfl, rfl⟩
  · rw [if_neg h1]
    by_cases h2 : y < x
    · rw [if_pos h2]
      go_enter Try.func34, Try.ntmps34
      go_wp2_with (go_at_call 50; refine (isnani_any _ _).mono ?_; rintro e w' ⟨rfl, rfl⟩)
      go_ret
      exact ⟨rfl, rfl⟩
    · rw [if_neg h2]
      go_enter Try.func34, Try.ntmps34
      go_wp2_with (go_at_call 50; refine (isnani_any _ _).mono ?_; rintro e w' ⟨rfl, rfl⟩)
      go_ret
      exact ⟨rfl, rfl⟩
set_option maxHeartbeats 400000 in
theorem isnanb_any (x : Int) (w : World) : Calls Try.prog 52 #[.int .u8 x] w fun e w' => e = .returned (.bool false) ∧ w = w' := by
  go_enter Try.func52, Try.ntmps52
  go_wp2
  go_ret
  exact ⟨rfl, rfl⟩
set_option maxHeartbeats 400000 in
theorem compareb_any (x y : Int) (w : World) : Calls Try.prog 46 #[.int .u8 x, .int .u8 y] w fun e w' => e = .returned (.int .i64 (cmpI x y)) ∧ w = w' := by
  unfold cmpI
  by_cases h1 : x < y
  · have b1 : decide (x < y) = true := decide_eq_true h1
    rw [if_pos h1]
    go_enter Try.func46, Try.ntmps46
    go_wp2_with (go_at_call 52; refine (isnanb_any _ _).mono ?_; rintro e w' ⟨rfl, rfl⟩)
    go_ret
    exact ⟨rfl, rfl⟩
  · rw [if_neg h1]
    by_cases h2 : y < x
    · rw [if_pos h2]
      go_enter Try.func46, Try.ntmps46
      go_wp2_with (go_at_call 52; refine (isnanb_any _ _).mono ?_; rintro e w' ⟨rfl, rfl⟩)
      go_ret
      exact ⟨rfl, rfl⟩
    · rw [if_neg h2]
      go_enter Try.func46, Try.ntmps46
      go_wp2_with (go_at_call 52; refine (isnanb_any _ _).mono ?_; rintro e w' ⟨rfl, rfl⟩)
      go_ret
      exact ⟨rfl, rfl⟩

set_option maxHeartbeats 1000000 in
theorem or_any (b : Nat) (x y : Int) (w : World) (c0 : w.cell? ⟨b, 0, none⟩ = some (.int .i64 x)) (c1 : w.cell? ⟨b, 1, none⟩ = some (.int .i64 y)) :
    Calls Try.prog 35 #[.slice (some ⟨b, 0, none⟩) 2 2] w fun e w' => e = .returned (.int .i64 (if x = 0 then y else x)) ∧ w = w' := by
  obtain ⟨r, hr⟩ : ∃ r, (if x = 0 then y else x) = r := ⟨_, rfl⟩
  rw [hr]
  have HR := Lib.hid hr
  clear hr
  go_enter Try.func35, Try.ntmps35
  go_wp2_with fail
  go_loop [8] (fun i => ∃ k : Nat, k ≤ 2 ∧ i = .int .i64 k ∧ Hid ((1 ≤ k → x = 0) ∧ (2 ≤ k → y = 0))) (fun i => 2 - (RowKit.intOf i).toNat)
  case atStart => exact ⟨0, by omega, rfl, Lib.hid ⟨fun h => by omega, fun h => by omega⟩⟩
  case round =>
    obtain ⟨k, hk, rfl, HT⟩ := hrel
    by_cases k0 : k = 0
    · subst k0
      by_cases h : x = 0
      · have z0 : (x != 0) = false := by simpa using h
        have HX := Lib.hid h
        clear h HT
        go_wp2_with fail
        go_round
        case rel => exact ⟨1, by omega, by go_num, Lib.hid ⟨fun _ => HX.out, fun h => by omega⟩⟩
        case measure => simp [RowKit.intOf]
      · have z0 : (x != 0) = true := by simpa using h
        have HE := Lib.hid (show x = r by rw [← HR.out, if_neg h])
        clear h HT HR
        go_wp2_with fail
        go_ret
        exact ⟨ret_i HE.out, rfl⟩
    · by_cases k1 : k = 1
      · subst k1
        have HX := Lib.hid (HT.out.1 (by omega))
        by_cases h : y = 0
        · have z0 : (y != 0) = false := by simpa using h
          have HY := Lib.hid h
          clear h HT
          go_wp2_with fail
          go_round
          case rel => exact ⟨2, by omega, by go_num, Lib.hid ⟨fun _ => HX.out, fun _ => HY.out⟩⟩
          case measure => simp [RowKit.intOf]
        · have z0 : (y != 0) = true := by simpa using h
          have HE := Lib.hid (show y = r by rw [← HR.out, if_pos HX.out])
          clear h HT HR HX
          go_wp2_with fail
          go_ret
          exact ⟨ret_i HE.out, rfl⟩
      · obtain rfl : k = 2 := by omega
        have HE := Lib.hid (show 0 = r by rw [← HR.out, if_pos (HT.out.1 (by omega)), HT.out.2 (by omega)])
        clear HT HR
        go_wp2_with fail
        go_ret
        exact ⟨ret_i HE.out, rfl⟩

theorem cmpN_at {k : Nat} {a b : List UInt8} (ha : k < a.length) (hb : k < b.length) (h : (fold a).take k = (fold b).take k) (hne : sml a[k] ≠ sml b[k]) : cmpI (sml a[k]).toNat (sml b[k]).toNat = cmpN a b := by
  have e1 : (fold a)[k]? = some (sml a[k]) := by simp [fold, ha]
  have e2 : (fold b)[k]? = some (sml b[k]) := by simp [fold, hb]
  have h1 : fold a ≠ fold b := fun q => hne (by rw [q, e2] at e1; exact (Option.some.inj e1).symm)
  unfold cmpN
  rw [if_neg h1, cb_at h e1 e2 hne]
theorem fold_take_next {k : Nat} {a b : List UInt8} (ha : k < a.length) (hb : k < b.length) (h : (fold a).take k = (fold b).take k) (he : sml a[k] = sml b[k]) : (fold a).take (k + 1) = (fold b).take (k + 1) := by
  rw [List.take_succ_eq_append_getElem (by simpa [fold] using ha), List.take_succ_eq_append_getElem (by simpa [fold] using hb), h]
  simp [fold, he]
theorem cmpN_end {k : Nat} {a b : List UInt8} (ha : k ≤ a.length) (hb : k ≤ b.length) (h : (fold a).take k = (fold b).take k) (hk : k = a.length ∨ k = b.length) : (if cmpI a.length b.length = 0 then compareBytes a b else cmpI a.length b.length) = cmpN a b := by
  have h1 := cb_len h (by rw [fold_length]; exact ha) (by rw [fold_length]; exact hb) (by rw [fold_length, fold_length]; exact hk)
  rw [fold_length, fold_length] at h1
  unfold cmpN
  by_cases e : fold a = fold b
  · rw [if_pos e]
    rw [e, cb_refl] at h1
    rw [if_pos h1.symm]
  · rw [if_neg e, if_neg (fun q => e (cb_zero (h1.trans q))), h1]

theorem strcmp_any (a b : List UInt8) (w : World) : Calls Try.prog 47 #[str a, str b] w fun e w' => e = .returned (.int .i64 (compareBytes a b)) ∧ w = w' := by
  refine (Try.strings_Compare ⟨a.toArray⟩ ⟨b.toArray⟩ w).mono ?_
  rintro e w' ⟨rfl, rfl⟩
  exact ⟨rfl, rfl⟩
set_option maxRecDepth 100000 in
set_option maxHeartbeats 2000000 in
theorem cmpn_any (a b : List UInt8) (ha : Fits a) (w : World) : Calls Try.prog 30 #[str a, str b] w fun e w' => e = .returned (.int .i64 (cmpN a b)) ∧ Lays w w' := by
  unfold Fits at ha
  have HS := Lib.hid (fun w => strcmp_any a b w)
  unfold str
  unfold str at HS
  obtain ⟨M, hM⟩ : ∃ M : Nat, min (a.length : Int) (b.length : Int) = (M : Int) := ⟨min a.length b.length, by omega⟩
  have hMa : M ≤ a.length := by omega
  have hMb : M ≤ b.length := by omega
  have HME := Lib.hid (show M = a.length ∨ M = b.length by omega)
  go_enter Try.func30, Try.ntmps30
  go_wp2_with fail
  go_loopw [13] (fun i wx => ∃ k d : Nat, k ≤ M ∧ i = .int .i64 k ∧ wx = w.drewN d ∧ Hid ((fold a).take k = (fold b).take k)) (fun i _ => M - (RowKit.intOf i).toNat)
  case atStart => exact ⟨0, 0, Nat.zero_le _, rfl, rfl, Lib.hid rfl⟩
  case round =>
    obtain ⟨k, d, hk, rfl, rfl, HT⟩ := hrel
    by_cases hlt : k < M
    · have b1 : (k : Int) < M := by omega
      have b2 : k < a.length := by omega
      have b3 : k < b.length := by omega
      have b4 : (k : Int) < a.length := by omega
      have b5 : (k : Int) < b.length := by omega
      have L1 := Lays.of_drew w d
      have hd := Lib.hid (show ∃ d, w.drewN d = w.drewN d from ⟨d, rfl⟩)
      obtain ⟨wr, hwr⟩ : ∃ wr, w.drewN d = wr := ⟨_, rfl⟩
      rw [hwr]
      have HW := Lib.hid hwr
      have K1 := Lib.hid (fun (d : Nat) => show Calls Try.prog 29 #[.int .u8 (((⟨a.toArray⟩ : ByteArray)[k]'b2).toNat : Int)] (wr.drewN d) (fun e w' => e = .returned (.int .u8 ((sml a[k]).toNat : Int)) ∧ w' = wr.drewN d) from (small_any a[k] _).mono fun _ _ ⟨h1, h2⟩ => ⟨h1, h2.symm⟩)
      have K2 := Lib.hid (fun (d : Nat) => show Calls Try.prog 29 #[.int .u8 (((⟨b.toArray⟩ : ByteArray)[k]'b3).toNat : Int)] (wr.drewN d) (fun e w' => e = .returned (.int .u8 ((sml b[k]).toNat : Int)) ∧ w' = wr.drewN d) from (small_any b[k] _).mono fun _ _ ⟨h1, h2⟩ => ⟨h1, h2.symm⟩)
      clear hwr hd L1
      by_cases he : sml a[k] = sml b[k]
      · have HN := Lib.hid (fold_take_next b2 b3 HT.out he)
        have z0 : (((sml a[k]).toNat : Int) != ((sml b[k]).toNat : Int)) = false := by rw [he]; simp
        generalize sml a[k] = X at *
        generalize sml b[k] = Y at *
        clear he HT
        go_wp2_with fail
        go_quiet ((first | (go_at_call 29; with_reducible exact Calls.quiet_of_same (K1.out _)) | (go_at_call 29; with_reducible exact Calls.quiet_of_same (K2.out _))))
        have HW2 := Lib.hid (show w.drewN (d + nq) = wr.drewN nq by rw [← HW.out, World.drewN_drewN])
        generalize wr.drewN nq = wz at *
        clear K1 K2 HW
        go_wp2_with fail
        go_roundw
        case rel => exact ⟨k + 1, _, by omega, by go_num, HW2.out.symm, HN⟩
        case measure => simp [RowKit.intOf]; omega
      · have HN := Lib.hid (cmpN_at b2 b3 HT.out he)
        have z0 : (((sml a[k]).toNat : Int) != ((sml b[k]).toNat : Int)) = true := by
          rw [bne_iff_ne]; intro q; apply he; apply UInt8.toNat_inj.1; omega
        generalize sml a[k] = X at *
        generalize sml b[k] = Y at *
        clear he HT
        go_wp2_with fail
        go_quiet ((first | (go_at_call 29; with_reducible exact Calls.quiet_of_same (K1.out _)) | (go_at_call 29; with_reducible exact Calls.quiet_of_same (K2.out _))))
        have HW2 := Lib.hid (show w.drewN (d + nq) = wr.drewN nq by rw [← HW.out, World.drewN_drewN])
        generalize wr.drewN nq = wz at *
        clear K1 K2 HW
        go_wp2_with fail
        refine (compareb_any _ _ _).mono ?_
        rintro e w2 ⟨rfl, rfl⟩
        go_wp2_with fail
        go_ret
        exact ⟨ret_i HN.out, HW2.out ▸ Lays.of_drew _ _⟩
    · obtain rfl : k = M := by omega
      have HN := Lib.hid (cmpN_end hMa hMb HT.out HME.out)
      have L1 := Lib.hid (Lays.of_drew w d)
      generalize w.drewN d = wr at *
      clear HT
      by_cases h0 : cmpI a.length b.length = 0
      · rw [if_pos h0] at HN
        have HC := Lib.hid (comparei_any (a.length : Int) (b.length : Int) wr)
        rw [h0] at HC
        go_wp2_with fail
        refine HC.out.mono ?_
        rintro e w2 ⟨rfl, rfl⟩
        go_wp2_with fail
        refine (HS.out _).mono ?_
        rintro e w2 ⟨rfl, rfl⟩
        generalize compareBytes a b = R at *
        go_wp2_with fail
        have H1 := has1 (w := wr) [.int .i64 0, .int .i64 R] 3
        have HO := Lib.hid (or_any wr.heap.size 0 R _ (H1.fact (.head _) (i := 0) rfl) (H1.fact (.head _) (i := 1) rfl))
        rw [if_pos rfl] at HO
        refine HO.out.mono ?_
        rintro e w2 ⟨rfl, rfl⟩
        have L2 := Lib.hid (L1.out.alloc (.cells #[.int .i64 0, .int .i64 R] 3))
        clear H1 HO
        go_wp2_with fail
        go_ret
        exact ⟨ret_i HN.out, L2.out⟩
      · rw [if_neg h0] at HN
        have HC := Lib.hid (comparei_any (a.length : Int) (b.length : Int) wr)
        obtain ⟨r, hr⟩ : ∃ r, cmpI (a.length : Int) (b.length : Int) = r := ⟨_, rfl⟩
        rw [hr] at HC HN h0
        have H0 := Lib.hid h0
        clear hr h0
        go_wp2_with fail
        refine HC.out.mono ?_
        rintro e w2 ⟨rfl, rfl⟩
        go_wp2_with fail
        refine (HS.out _).mono ?_
        rintro e w2 ⟨rfl, rfl⟩
        generalize compareBytes a b = R at *
        go_wp2_with fail
        have H1 := has1 (w := wr) [.int .i64 r, .int .i64 R] 3
        have HO := Lib.hid (or_any wr.heap.size r R _ (H1.fact (.head _) (i := 0) rfl) (H1.fact (.head _) (i := 1) rfl))
        rw [if_neg H0.out] at HO
        refine HO.out.mono ?_
        rintro e w2 ⟨rfl, rfl⟩
        have L2 := Lib.hid (L1.out.alloc (.cells #[.int .i64 r, .int .i64 R] 3))
        clear H1 HO
        go_wp2_with fail
        go_ret
        exact ⟨ret_i HN.out, L2.out⟩
def lessN (a b : List UInt8) : Bool := decide (cmpN a b < 0)
set_option maxHeartbeats 1000000 in
theorem less_any (a b : List UInt8) (ha : Fits a) (w : World) : Calls Try.prog 17 #[str a, str b] w fun e w' => e = .returned (.bool (lessN a b)) ∧ Grows w w' := by
  have HC := Lib.hid (cmpn_any a b ha w)
  unfold lessN
  generalize cmpN a b = R at *
  generalize str a = sa at *
  generalize str b = sb at *
  go_enter Try.func17, Try.ntmps17
  go_wp2_with fail
  refine HC.out.mono ?_
  rintro e w2 ⟨rfl, hL⟩
  go_wp2_with fail
  go_ret
  exact ⟨rfl, hL.grows⟩

end Go.Proofs.Ytiliommilcifeaa
