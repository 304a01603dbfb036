/- Whether a way before has the number, or crosses at the level. -/
import Derived.Test.YtoaldbjcpfkcjaaGreatcCy
namespace Go.Proofs.YtoaldbjcpfkcjaaGreat
open Go.RowKit Go.Lib

def sameId (i : Int) (t : Wy) : Bool := decide (t.id = i)
def sameLv (l : Int) (m : List (Int × Int)) (t : Wy) : Bool := decide (t.lv = l) && crossP t.ln m
set_option maxHeartbeats 1000000 in
theorem sameid_any (t : Wy) (u : Value) (P : Nat) (i : Int) (w : World) (hu : RowP w u t.ln) (hP : w.cell? ⟨P, 0, none⟩ = some (.int .i64 i)) :
  Calls Tryz.prog 57 #[wv t u, .pointer (some ⟨P, 0, none⟩)] w fun e w' => e = .returned (.bool (sameId i t)) ∧ Below w.heap.size w w' := by
 obtain ⟨id, ln, lv, cl, nm, st, wt, ds⟩ := t
 obtain ⟨a, n, c, rfl, hn, hu⟩ := hu.form
 unfold wv sameId
 simp only
 have C0 := (Has.nil (Below.refl w.heap.size w)).push [.int .i64 id, .slice a n c, .int .i64 lv, .string cl, .string nm, .bool st, .int .i64 wt, .int .i64 ds] 44
 have HP := Lib.hid hP
 obtain ⟨r, hr⟩ : ∃ r, decide (id = i) = r := ⟨_, rfl⟩
 rw [hr]
 have z : (id == i) = r := by rw [← hr]; rfl
 clear hP hn hu hr
 go_enter Tryz.func57, Tryz.ntmps57
 go_upto_region 1 with fail
 change Has w _ (w.alloc (.cells #[.int .i64 id, .slice a n c, .int .i64 lv, .string cl, .string nm, .bool st, .int .i64 wt, .int .i64 ds] 44)) at C0
 generalize w.alloc (.cells #[.int .i64 id, .slice a n c, .int .i64 lv, .string cl, .string nm, .bool st, .int .i64 wt, .int .i64 ds] 44) = w0 at *
 have hp := (C0.low.cell (World.block_lt_of_cell? w _ HP.out)).trans HP.out
 have k0 := C0.fact (.head _) (i := 0) rfl
 have HC := Lib.hid C0
 clear C0
 go_wp2_with fail
 go_ret
 exact ⟨rfl, HC.out.low⟩
theorem lcross_is (u v : Value) (l m : List (Int × Int)) (r : Bool) (h : crossP l m = r) (w : World) (hu : RowP w u l) (hv : RowP w v m) :
  Calls Tryz.prog 60 #[u, v] w fun e w' => e = .returned (.bool r) ∧ Below w.heap.size w w' := h ▸ lcross_any u v l m w hu hv
set_option maxHeartbeats 1000000 in
theorem samelv_any (t : Wy) (u : Value) (P : Nat) (l : Int) (v : Value) (m : List (Int × Int)) (w : World) (hu : RowP w u t.ln) (hv : RowP w v m) (hP : w.cell? ⟨P, 2, none⟩ = some (.int .i64 l)) (hQ : w.cell? ⟨P, 1, none⟩ = some v) :
  Calls Tryz.prog 59 #[wv t u, .pointer (some ⟨P, 0, none⟩)] w fun e w' => e = .returned (.bool (sameLv l m t)) ∧ Below w.heap.size w w' := by
 obtain ⟨id, ln, lv, cl, nm, st, wt, ds⟩ := t
 obtain ⟨a, n, c, rfl, hn, hu⟩ := hu.form
 obtain ⟨a', n', c', rfl, hn', hv⟩ := hv.form
 unfold wv sameLv
 simp only at hu ⊢
 have HP := Lib.hid hP
 have HQ := Lib.hid hQ
 have HU := Lib.hid hu
 have HV := Lib.hid hv
 clear hP hQ hn hn' hu hv
 by_cases h : lv = l
 ·have z : (lv == l) = true := by simpa using h
  rw [decide_eq_true h, Bool.true_and]
  obtain ⟨r, hr⟩ : ∃ r, crossP ln m = r := ⟨_, rfl⟩
  rw [hr]
  have HRR := Lib.hid hr
  clear h hr
  have C0 := (Has.nil (Below.refl w.heap.size w)).push [.int .i64 id, .slice a n c, .int .i64 lv, .string cl, .string nm, .bool st, .int .i64 wt, .int .i64 ds] 44
  go_enter Tryz.func59, Tryz.ntmps59
  go_upto_region 1 with fail
  change Has w _ (w.alloc (.cells #[.int .i64 id, .slice a n c, .int .i64 lv, .string cl, .string nm, .bool st, .int .i64 wt, .int .i64 ds] 44)) at C0
  generalize w.alloc (.cells #[.int .i64 id, .slice a n c, .int .i64 lv, .string cl, .string nm, .bool st, .int .i64 wt, .int .i64 ds] 44) = w0 at *
  have hp := (C0.low.cell (World.block_lt_of_cell? w _ HP.out)).trans HP.out
  have hq := (C0.low.cell (World.block_lt_of_cell? w _ HQ.out)).trans HQ.out
  have k2 := C0.fact (.head _) (i := 2) rfl
  have k1 := C0.fact (.head _) (i := 1) rfl
  have HC := Lib.hid C0
  clear C0
  have HR := Lib.hid (lcross_is _ _ ln m r HRR.out w0 (HU.out.later HC.out.low) (HV.out.later HC.out.low))
  go_wp2_with fail
  refine HR.out.mono ?_
  rintro e w1 ⟨rfl, g1⟩
  have HC1 := Lib.hid (HC.out.later g1)
  clear HR hp hq k1 k2 g1
  go_wp2_with fail
  go_ret
  exact ⟨rfl, HC1.out.low⟩
 ·have z : (lv == l) = false := by simpa using h
  rw [decide_eq_false h, Bool.false_and]
  clear h
  have C0 := (Has.nil (Below.refl w.heap.size w)).push [.int .i64 id, .slice a n c, .int .i64 lv, .string cl, .string nm, .bool st, .int .i64 wt, .int .i64 ds] 44
  go_enter Tryz.func59, Tryz.ntmps59
  go_upto_region 1 with fail
  change Has w _ (w.alloc (.cells #[.int .i64 id, .slice a n c, .int .i64 lv, .string cl, .string nm, .bool st, .int .i64 wt, .int .i64 ds] 44)) at C0
  generalize w.alloc (.cells #[.int .i64 id, .slice a n c, .int .i64 lv, .string cl, .string nm, .bool st, .int .i64 wt, .int .i64 ds] 44) = w0 at *
  have hp := (C0.low.cell (World.block_lt_of_cell? w _ HP.out)).trans HP.out
  have hq := (C0.low.cell (World.block_lt_of_cell? w _ HQ.out)).trans HQ.out
  have k2 := C0.fact (.head _) (i := 2) rfl
  have k1 := C0.fact (.head _) (i := 1) rfl
  have HC := Lib.hid C0
  clear C0
  go_wp2_with fail
  go_ret
  exact ⟨rfl, HC.out.low⟩
theorem anyL_not {L : List Wy} {k : Nat} {x : Wy} {p : Wy → Bool} (h : L[k]? = some x) (hA : (L.take k).any p = false) (hx : p x = false) : (L.take (k + 1)).any p = false := by
 rw [take_snocW h, List.any_append, hA]; simp [hx]
theorem anyL_at {L : List Wy} {k : Nat} {x : Wy} {p : Wy → Bool} (h : L[k]? = some x) (hx : p x = true) : L.any p = true := List.any_eq_true.2 ⟨x, List.mem_of_getElem? h, hx⟩
theorem anyL_end {L : List Wy} {k : Nat} {p : Wy → Bool} (h : L.length = k) (hA : (L.take k).any p = false) : L.any p = false := by
 rw [List.take_of_length_le (by omega)] at hA; exact hA
theorem RowW.form {w : World} {v : Value} {ws : List Wy} (h : RowW w v ws) : ∃ a n c, v = .slice a n c ∧ ws.length = n ∧ n ≤ c ∧ (c : Int) ≤ 9223372036854775807 ∧ RowW w (.slice a n c) ws := by
 have h0 := h
 obtain ⟨a, c, rfl, h1, h2, -⟩ := h0
 exact ⟨a, _, c, rfl, rfl, h1, h2, h⟩
set_option maxRecDepth 100000 in
set_option maxHeartbeats 1000000 in
theorem indexid_any (v : Value) (ws : List Wy) (P : Nat) (ii : Int) (w : World) (hv : RowW w v ws) (hP : w.cell? ⟨P, 0, none⟩ = some (.int .i64 ii)) :
  Calls Tryz.prog 85 #[v, .func (.func 57) #[] #[.pointer (some ⟨P, 0, none⟩)]] w fun e w' => (∃ z : Int, e = .returned (.int .i64 z) ∧ decide (0 ≤ z) = ws.any (sameId ii)) ∧ Below w.heap.size w w' := by
 obtain ⟨a, m, cap, rfl, hm, hc1, hc2, hv⟩ := hv.form
 have HV := Lib.hid hv
 have HM := Lib.hid hm
 have HPP := Lib.hid hP
 clear hv hm hP
 go_enter Tryz.func85, Tryz.ntmps85
 go_wp2_with fail
 go_loopw [8] (fun i wr => ∃ k : Nat, k ≤ m ∧ i = .int .i64 k ∧ Hid ((ws.take k).any (sameId ii) = false) ∧ Grows w wr) (fun i _ => m - (RowKit.intOf i).toNat)
 case atStart => exact ⟨0, Nat.zero_le _, rfl, Lib.hid rfl, Below.refl _ _⟩
 case round =>
  obtain ⟨k, hk, rfl, HA, hG⟩ := hrel
  by_cases hlt : k < m
  ·obtain ⟨b, o, rfl, hq0⟩ := (HV.out.later hG).spot (by rw [HM.out]; omega)
   obtain ⟨t, ht⟩ : ∃ t, ws[k]? = some t := ⟨_, List.getElem?_eq_getElem (by rw [HM.out]; exact hlt)⟩
   obtain ⟨u, hu, c0, c1, c2, c3, c4, c5, c6, c7⟩ := hq0 k t ht
   have HPPW := (hG.cell (World.block_lt_of_cell? w _ HPP.out)).trans HPP.out
   obtain ⟨r, hr⟩ : ∃ r, (sameId ii) t = r := ⟨_, rfl⟩
   have HC := sameid_any t u P ii wr hu HPPW
   rw [hr] at HC
   unfold wv at HC
   have HC := Lib.hid HC
   have HT := Lib.hid ht
   have HR := Lib.hid hr
   obtain ⟨ua, uc, rfl, -⟩ := hu
   have bb1 : (k : Int) < m := by omega
   have bb6 : (0 : Int) ≤ k := by omega
   clear hq0 ht hr HPPW
   rename_i HC0
   clear HC0
   go_wp2_with fail
   refine HC.out.mono ?_
   rintro e w2 ⟨rfl, g2⟩
   clear c0 c1 c2 c3 c4 c5 c6 c7 HC
   cases r
   ·go_wp2_with fail
    go_roundw
    case rel => exact ⟨k + 1, by omega, by go_num, Lib.hid (anyL_not HT.out HA.out HR.out), hG.then g2⟩
    case measure => simp [RowKit.intOf]; omega
   ·go_wp2_with fail
    go_ret
    exact ⟨⟨k, rfl, by rw [anyL_at (p := sameId ii) HT.out HR.out]; exact decide_eq_true bb6⟩, hG.then g2⟩
  ·obtain rfl : k = m := by omega
   go_wp2_with fail
   go_ret
   exact ⟨⟨-1, rfl, by rw [anyL_end HM.out HA.out]; rfl⟩, hG⟩
set_option maxHeartbeats 1000000 in
theorem containsid_any (v : Value) (ws : List Wy) (P : Nat) (ii : Int) (w : World) (hv : RowW w v ws) (hP : w.cell? ⟨P, 0, none⟩ = some (.int .i64 ii)) :
  Calls Tryz.prog 56 #[v, .func (.func 57) #[] #[.pointer (some ⟨P, 0, none⟩)]] w fun e w' => e = .returned (.bool (ws.any (sameId ii))) ∧ Below w.heap.size w w' := by
 have HI := Lib.hid (indexid_any v ws P ii w hv hP)
 clear hP
 go_enter Tryz.func56, Tryz.ntmps56
 go_wp2_with fail
 refine HI.out.mono ?_
 rintro e w2 ⟨⟨z, rfl, hz⟩, g2⟩
 have HZ := Lib.hid hz
 clear hz HI
 go_wp2_with fail
 go_ret
 exact ⟨ret_b HZ.out, g2⟩
theorem containsid_is (v : Value) (ws : List Wy) (P : Nat) (ii : Int) (r : Bool) (h : ws.any (sameId ii) = r) (w : World) (hv : RowW w v ws) (hP : w.cell? ⟨P, 0, none⟩ = some (.int .i64 ii)) :
  Calls Tryz.prog 56 #[v, .func (.func 57) #[] #[.pointer (some ⟨P, 0, none⟩)]] w fun e w' => e = .returned (.bool r) ∧ Below w.heap.size w w' := h ▸ containsid_any v ws P ii w hv hP
set_option maxRecDepth 100000 in
set_option maxHeartbeats 1000000 in
theorem indexlv_any (v : Value) (ws : List Wy) (P : Nat) (l : Int) (y : Value) (m : List (Int × Int)) (w : World) (hv : RowW w v ws) (hy : RowP w y m) (hP : w.cell? ⟨P, 2, none⟩ = some (.int .i64 l)) (hQ : w.cell? ⟨P, 1, none⟩ = some y) :
  Calls Tryz.prog 85 #[v, .func (.func 59) #[] #[.pointer (some ⟨P, 0, none⟩)]] w fun e w' => (∃ z : Int, e = .returned (.int .i64 z) ∧ decide (0 ≤ z) = ws.any (sameLv l m)) ∧ Below w.heap.size w w' := by
 obtain ⟨a, mm, cap, rfl, hm, hc1, hc2, hv⟩ := hv.form
 have HV := Lib.hid hv
 have HM := Lib.hid hm
 have HY := Lib.hid hy
 have HPP := Lib.hid hP
 have HQQ := Lib.hid hQ
 clear hv hm hP hQ hy
 go_enter Tryz.func85, Tryz.ntmps85
 go_wp2_with fail
 go_loopw [8] (fun i wr => ∃ k : Nat, k ≤ mm ∧ i = .int .i64 k ∧ Hid ((ws.take k).any (sameLv l m) = false) ∧ Grows w wr) (fun i _ => mm - (RowKit.intOf i).toNat)
 case atStart => exact ⟨0, Nat.zero_le _, rfl, Lib.hid rfl, Below.refl _ _⟩
 case round =>
  obtain ⟨k, hk, rfl, HA, hG⟩ := hrel
  by_cases hlt : k < mm
  ·obtain ⟨b, o, rfl, hq0⟩ := (HV.out.later hG).spot (by rw [HM.out]; omega)
   obtain ⟨t, ht⟩ : ∃ t, ws[k]? = some t := ⟨_, List.getElem?_eq_getElem (by rw [HM.out]; exact hlt)⟩
   obtain ⟨u, hu, c0, c1, c2, c3, c4, c5, c6, c7⟩ := hq0 k t ht
   have HPPW := (hG.cell (World.block_lt_of_cell? w _ HPP.out)).trans HPP.out
   have HQQW := (hG.cell (World.block_lt_of_cell? w _ HQQ.out)).trans HQQ.out
   obtain ⟨r, hr⟩ : ∃ r, (sameLv l m) t = r := ⟨_, rfl⟩
   have HC := samelv_any t u P l y m wr hu (HY.out.later hG) HPPW HQQW
   rw [hr] at HC
   unfold wv at HC
   have HC := Lib.hid HC
   have HT := Lib.hid ht
   have HR := Lib.hid hr
   obtain ⟨ua, uc, rfl, -⟩ := hu
   have bb1 : (k : Int) < mm := by omega
   have bb6 : (0 : Int) ≤ k := by omega
   clear hq0 ht hr HPPW HQQW
   rename_i HC0
   clear HC0
   go_wp2_with fail
   refine HC.out.mono ?_
   rintro e w2 ⟨rfl, g2⟩
   clear c0 c1 c2 c3 c4 c5 c6 c7 HC
   cases r
   ·go_wp2_with fail
    go_roundw
    case rel => exact ⟨k + 1, by omega, by go_num, Lib.hid (anyL_not HT.out HA.out HR.out), hG.then g2⟩
    case measure => simp [RowKit.intOf]; omega
   ·go_wp2_with fail
    go_ret
    exact ⟨⟨k, rfl, by rw [anyL_at (p := sameLv l m) HT.out HR.out]; exact decide_eq_true bb6⟩, hG.then g2⟩
  ·obtain rfl : k = mm := by omega
   go_wp2_with fail
   go_ret
   exact ⟨⟨-1, rfl, by rw [anyL_end HM.out HA.out]; rfl⟩, hG⟩
set_option maxHeartbeats 1000000 in
theorem containslv_any (v : Value) (ws : List Wy) (P : Nat) (l : Int) (y : Value) (m : List (Int × Int)) (w : World) (hv : RowW w v ws) (hy : RowP w y m) (hP : w.cell? ⟨P, 2, none⟩ = some (.int .i64 l)) (hQ : w.cell? ⟨P, 1, none⟩ = some y) :
  Calls Tryz.prog 56 #[v, .func (.func 59) #[] #[.pointer (some ⟨P, 0, none⟩)]] w fun e w' => e = .returned (.bool (ws.any (sameLv l m))) ∧ Below w.heap.size w w' := by
 have HI := Lib.hid (indexlv_any v ws P l y m w hv hy hP hQ)
 clear hy hP hQ
 go_enter Tryz.func56, Tryz.ntmps56
 go_wp2_with fail
 refine HI.out.mono ?_
 rintro e w2 ⟨⟨z, rfl, hz⟩, g2⟩
 have HZ := Lib.hid hz
 clear hz HI
 go_wp2_with fail
 go_ret
 exact ⟨ret_b HZ.out, g2⟩
theorem containslv_is (v : Value) (ws : List Wy) (P : Nat) (l : Int) (y : Value) (m : List (Int × Int)) (r : Bool) (h : ws.any (sameLv l m) = r) (w : World) (hv : RowW w v ws) (hy : RowP w y m) (hP : w.cell? ⟨P, 2, none⟩ = some (.int .i64 l)) (hQ : w.cell? ⟨P, 1, none⟩ = some y) :
  Calls Tryz.prog 56 #[v, .func (.func 59) #[] #[.pointer (some ⟨P, 0, none⟩)]] w fun e w' => e = .returned (.bool r) ∧ Below w.heap.size w w' := h ▸ containslv_any v ws P l y m w hv hy hP hQ

end Go.Proofs.YtoaldbjcpfkcjaaGreat
