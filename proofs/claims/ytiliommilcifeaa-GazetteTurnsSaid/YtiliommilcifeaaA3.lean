/- Fold of both, Less of the reference, names and classes that are right. -/
import Derived.Test.YtiliommilcifeaaA2
namespace Go.Proofs.Ytiliommilcifeaa
open Go.RowKit Go.Lib Go.Sort

/-- The cells of bytes. -/
def u8s (s : List UInt8) : List Value := s.map fun c => .int .u8 (c.toNat : Int)
theorem u8s_at {s : List UInt8} {k : Nat} (h : k < s.length) : (u8s s)[k]? = some (.int .u8 (s[k].toNat : Int)) := by simp [u8s, h]
theorem u8s_length (s : List UInt8) : (u8s s).length = s.length := by simp [u8s]
theorem u8s_set (s : List UInt8) (k : Nat) (c : UInt8) : (u8s s).set k (.int .u8 (c.toNat : Int)) = u8s (s.set k c) := by simp [u8s, List.map_set]
/-- A new row of a string's bytes, with its mark. -/
theorem has_bytes (w : World) (s : List UInt8) (cap : Nat) (e : TypeId) (hc : s.length ≤ cap) : Has w [(w.heap.size, u8s s)] (w.drew.alloc (.cells (bytesRow ⟨s.toArray⟩ cap) e ((bytesRow ⟨s.toArray⟩ cap).size, (bytesRow ⟨s.toArray⟩ cap).size + 1))) := by
  have hsz : (bytesRow ⟨s.toArray⟩ cap).size = cap := by
    unfold bytesRow; simp; show s.length + (cap - s.length) = cap; omega
  refine ⟨fun p hp => ?_, fun p hp => ?_, fun p hp => ?_, List.pairwise_singleton _ _, ((Below.refl _ _).drew).alloc (Nat.le_refl _) _⟩
  · obtain rfl := List.mem_singleton.1 hp
    intro i v hv
    have hi : i < s.length := by
      have := (List.getElem?_eq_some_iff.1 hv).1
      rw [u8s_length] at this; exact this
    rw [u8s_at hi] at hv
    have h1 := World.cell?_alloc_mark w.drew (bytesRow ⟨s.toArray⟩ cap) e ((bytesRow ⟨s.toArray⟩ cap).size, (bytesRow ⟨s.toArray⟩ cap).size + 1) i
    have h2 := World.frozen?_alloc_mark w.drew (bytesRow ⟨s.toArray⟩ cap) e (bytesRow ⟨s.toArray⟩ cap).size ((bytesRow ⟨s.toArray⟩ cap).size + 1) i
    have h3 : ¬ cap ≤ i := by omega
    refine ⟨h1.trans ?_, h2.trans ?_⟩
    · rw [bytesRow_at ⟨s.toArray⟩ cap i hi]; exact hv
    · rw [hsz, decide_eq_false h3]; rfl
  · obtain rfl := List.mem_singleton.1 hp
    simp
  · obtain rfl := List.mem_singleton.1 hp
    exact Nat.le_refl _
/-- The bytes behind k rounds. -/
def half (s : List UInt8) (k : Nat) : List UInt8 := (fold s).take k ++ s.drop k
theorem half_length (s : List UInt8) (k : Nat) (hk : k ≤ s.length) : (half s k).length = s.length := by
  unfold half; simp [fold]; omega
theorem half_at (s : List UInt8) (k : Nat) (hk : k < s.length) : (half s k)[k]? = some s[k] := by
  unfold half
  rw [List.getElem?_append_right (by simp [fold]; omega)]
  simp [fold, Nat.min_eq_left (Nat.le_of_lt hk), hk]
theorem half_next (s : List UInt8) (k : Nat) (hk : k < s.length) : (half s k).set k (sml s[k]) = half s (k + 1) := by
  unfold half
  rw [List.set_append_right _ _ (by simp [fold]; omega)]
  rw [List.take_succ_eq_append_getElem (by simpa [fold] using hk), List.append_assoc]
  congr 1
  have : k - ((fold s).take k).length = 0 := by simp [fold]; omega
  have h2 : (fold s)[k]'(by rw [fold_length]; exact hk) = sml s[k] := by simp [fold]
  rw [this, List.drop_eq_getElem_cons hk, h2]
  rfl
theorem half_zero (s : List UInt8) : half s 0 = s := by simp [half]
theorem half_end (s : List UInt8) : half s s.length = fold s := by unfold half; rw [List.take_of_length_le (by rw [fold_length]; exact Nat.le_refl _)]; simp
set_option maxRecDepth 100000 in
set_option maxHeartbeats 2000000 in
theorem fold_any (s : List UInt8) (hs : Fits s) (w : World) : Calls Try.prog 15 #[str s] w fun e w' => e = .returned (str (fold s)) ∧ Grows w w' := by
  unfold Fits at hs
  unfold str
  go_enter Try.func15, Try.ntmps15
  go_wp2_with fail
  have hcap := Lib.hid (grownCap_ge w s.length 0 5)
  rw [run_bytes_of_string w 9 55 5 ⟨s.toArray⟩ rfl rfl rfl]
  simp only [Result.andThen]
  rw [Oper.upon_value]
  have e1 : (⟨s.toArray⟩ : ByteArray).size = s.length := rfl
  rw [e1]
  obtain ⟨cap, hcp⟩ : ∃ cap, grownCap w s.length 0 5 = cap := ⟨_, rfl⟩
  rw [hcp] at hcap ⊢
  have H0 := Lib.hid (has_bytes w s cap 5 hcap.out)
  obtain ⟨B, hB⟩ : ∃ B, w.heap.size = B := ⟨_, rfl⟩
  rw [hB] at H0 ⊢
  generalize w.drew.alloc _ = w1 at *
  clear hcp e1
  go_wp2_with fail
  go_loopw [10] (fun i wx => ∃ k : Nat, k ≤ s.length ∧ i = .int .i64 k ∧ Hid (Has w [(B, u8s (half s k))] wx)) (fun i _ => s.length - (RowKit.intOf i).toNat)
  case atStart => exact ⟨0, Nat.zero_le _, rfl, by rw [half_zero]; exact H0⟩
  case round =>
    obtain ⟨k, hk, rfl, H⟩ := hrel
    by_cases hlt : k < s.length
    · have b1 : (k : Int) < s.length := by omega
      have hh := half_at s k hlt
      have c0 := H.out.fact (.head _) (i := k) (show (u8s (half s k))[k]? = some (.int .u8 (s[k].toNat : Int)) by unfold u8s; rw [List.getElem?_map, hh]; rfl)
      have f0 := H.out.free (.head _) (i := k) (show (u8s (half s k))[k]? = some (.int .u8 (s[k].toNat : Int)) by unfold u8s; rw [List.getElem?_map, hh]; rfl)
      have HN := Lib.hid (show Has w [(B, u8s (half s (k + 1)))] (wr.setCell ⟨B, k, none⟩ (.int .u8 ((sml s[k]).toNat : Int))) from by
        have := H.out.set k (by rw [u8s_length, half_length s k (by omega)]; exact hlt) (.int .u8 ((sml s[k]).toNat : Int))
        rw [u8s_set, half_next s k hlt] at this
        exact this)
      have HC := Lib.hid (small_any s[k])
      generalize s[k] = c at *
      generalize sml c = d at *
      clear hh H hB
      go_wp2_with fail
      refine (HC.out _).mono ?_
      rintro e w2 ⟨rfl, rfl⟩
      go_wp2_with fail
      go_roundw
      case rel => exact ⟨k + 1, by omega, by go_num, HN⟩
      case measure => simp [RowKit.intOf]; omega
    · obtain rfl : k = s.length := by omega
      rw [half_end] at H
      have HL := Lib.hid (fold_length s)
      obtain ⟨t, ht⟩ : ∃ t, fold s = t := ⟨_, rfl⟩
      have HT := Lib.hid ht
      rw [ht] at HL H
      have hc0 := Lib.hid (fun (j : Nat) (hj : j < t.length) => show wr.cell? ((⟨B, 0, none⟩ : Addr).add j) = some (.int .u8 (t[j].toNat : Int)) from by
        have := H.out.fact (.head _) (i := j) (u8s_at hj)
        have e : (⟨B, 0, none⟩ : Addr).add j = ⟨B, j, none⟩ := by simp [Addr.add]; omega
        rw [e]; exact this)
      have HG := Lib.hid H.out.low
      clear H ht
      have b1 : ¬ ((s.length : Int) < s.length) := by omega
      go_wp2_with fail
      have hlen := HL.out
      rw [← hlen, run_convert_bytes_back _ 55 9 5 ⟨B, 0, none⟩ cap t rfl rfl rfl hc0.out]
      simp only [Result.andThen]
      rw [Oper.upon_value]
      go_wp2_with fail
      go_ret
      exact ⟨by rw [HT.out]; rfl, HG.out⟩

theorem ret_str {a b : ByteArray} (h : a = b) : Ending.returned (.string a) = .returned (.string b) := by rw [h]
theorem ba_extract (s : List UInt8) (n : Nat) : (⟨s.toArray⟩ : ByteArray).extract 0 n = ⟨(s.take n).toArray⟩ := by
  apply ByteArray.ext
  simp [ByteArray.data_extract]
set_option maxHeartbeats 1000000 in
theorem cut_any (s : List UInt8) (hs : (s.length : Int) ≤ 9223372036854775807) (w : World) : Calls Try.prog 10 #[str s] w fun e w' => e = .returned (str (s.take 40)) ∧ w = w' := by
  unfold str
  by_cases h : s.length ≤ 40
  · have h1 : min (s.length : Int) 40 = (s.length : Int) := by omega
    rw [List.take_of_length_le h]
    go_enter Try.func10, Try.ntmps10
    go_wp2_with fail
    go_ret
    exact ⟨ret_str (by rw [ba_extract]; simp), rfl⟩
  · have h1 : min (s.length : Int) 40 = 40 := by omega
    go_enter Try.func10, Try.ntmps10
    go_wp2_with fail
    go_ret
    exact ⟨ret_str (by rw [ba_extract]), rfl⟩
theorem bytesLess_eq : ∀ a b : List UInt8, Op.bytesLess a b = decide (compareBytes a b < 0)
  | [], [] => by simp [Op.bytesLess, compareBytes]
  | [], _ :: _ => by simp [Op.bytesLess, compareBytes]
  | _ :: _, [] => by simp [Op.bytesLess, compareBytes]
  | x :: xs, y :: ys => by
    unfold Op.bytesLess compareBytes
    rw [bytesLess_eq xs ys]
    simp only [UInt8.lt_iff_toNat_lt]
    by_cases h1 : x.toNat < y.toNat
    · simp [h1]
    · by_cases h2 : y.toNat < x.toNat
      · have : ¬ x = y := fun e => by rw [e] at h2; omega
        simp [h1, h2, this]
      · have : x = y := UInt8.toNat_inj.1 (by omega)
        simp [this]
set_option maxHeartbeats 1000000 in
theorem rless_any (a b : List UInt8) (ha : Fits a) (hb : Fits b) (w : World)
    (HF : ∀ s, Fits s → ∀ w, Calls Try.prog 16 #[str s] w fun e w' => e = .returned (str (fold s)) ∧ Grows w w') : Calls Try.prog 18 #[str a, str b] w fun e w' => e = .returned (.bool (lessN a b)) ∧ Grows w w' := by
  have HA := Lib.hid (HF a ha)
  have HB := Lib.hid (HF b hb)
  clear HF
  unfold str at HA HB ⊢
  have HR := Lib.hid (show (if fold a = fold b then Op.bytesLess a b else Op.bytesLess (fold a) (fold b)) = lessN a b by
    unfold lessN cmpN
    split
    · rw [bytesLess_eq]
    · rw [bytesLess_eq])
  by_cases h : fold a = fold b
  · have z0 : (fold a == fold b) = true := by rw [h]; simp
    rw [if_pos h] at HR
    clear h
    go_enter Try.func18, Try.ntmps18
    go_wp2_with fail
    refine (HA.out _).mono ?_
    rintro e w2 ⟨rfl, g1⟩
    go_wp2_with fail
    refine (HB.out _).mono ?_
    rintro e w3 ⟨rfl, g2⟩
    go_wp2_with fail
    go_ret
    exact ⟨ret_b HR.out, g1.then g2⟩
  · have z0 : (fold a == fold b) = false := by simpa using h
    rw [if_neg h] at HR
    clear h
    go_enter Try.func18, Try.ntmps18
    go_wp2_with fail
    refine (HA.out _).mono ?_
    rintro e w2 ⟨rfl, g1⟩
    go_wp2_with fail
    refine (HB.out _).mono ?_
    rintro e w3 ⟨rfl, g2⟩
    go_wp2_with fail
    go_ret
    exact ⟨ret_b HR.out, g1.then g2⟩

end Go.Proofs.Ytiliommilcifeaa
