/- The reference: whether groups are equal. -/
import Derived.Test.YtoaldbjcpfkcjaaGreatcGb
namespace Go.Proofs.YtoaldbjcpfkcjaaGreat
open Go.RowKit Go.Lib

theorem RowG.form {w : World} {v : Value} {gs : List (List Int)} (h : RowG w v gs) : ∃ a n c, v = .slice a n c ∧ gs.length = n ∧ n ≤ c ∧ (c : Int) ≤ 9223372036854775807 ∧ RowG w (.slice a n c) gs := by
 have h0 := h
 obtain ⟨a, c, rfl, h1, h2, -⟩ := h0
 exact ⟨a, _, c, rfl, rfl, h1, h2, h⟩
theorem RowG.spot {w : World} {a : Option Addr} {n c : Nat} {gs : List (List Int)} (h : RowG w (.slice a n c) gs) (hp : 0 < gs.length) :
  ∃ b o, a = some ⟨b, o, none⟩ ∧ ∀ i xs, gs[i]? = some xs → ∃ u, RowN w u xs ∧ w.cell? ⟨b, o + i, none⟩ = some u := by
 obtain ⟨a', c', he, -, -, hq⟩ := h
 injection he with e1 _ _
 subst e1
 exact hq.resolve_left (by intro h; rw [h] at hp; simp at hp)
set_option maxRecDepth 100000 in
set_option maxHeartbeats 2000000 in
theorem samegroups_any (u v : Value) (gs : List (List Int)) (w : World) (hu : RowG w u gs) (hv : RowG w v gs) :
  Calls Tryz.prog 15 #[u, v] w fun e w' => e = .returned (.bool true) ∧ Below w.heap.size w w' := by
 obtain ⟨a, n, c, rfl, hn, hc1, hc2, hu⟩ := hu.form
 obtain ⟨a', n', c', rfl, hn', hd1, hd2, hv⟩ := hv.form
 obtain rfl : n = n' := hn.symm.trans hn'
 clear hn'
 have HU := Lib.hid hu
 have HV := Lib.hid hv
 have HN := Lib.hid hn
 clear hu hv hn
 go_enter Tryz.func15, Tryz.ntmps15
 go_wp2_with fail
 go_loopw [5] (fun i wr => ∃ k : Nat, k ≤ n ∧ i = .int .i64 k ∧ Grows w wr) (fun i _ => n - (RowKit.intOf i).toNat)
 case atStart => exact ⟨0, Nat.zero_le _, rfl, Below.refl _ _⟩
 case round =>
  obtain ⟨k, hk, rfl, hG⟩ := hrel
  by_cases hlt : k < n
  ·have b1 : (k : Int) < n := by omega
   have b2 : (0 : Int) ≤ k := by omega
   have ku : (k : Int) + 1 ≤ 9223372036854775807 := by omega
   obtain ⟨xs, hxs⟩ : ∃ xs, gs[k]? = some xs := ⟨_, List.getElem?_eq_getElem (by rw [HN.out]; exact hlt)⟩
   obtain ⟨b, o, rfl, hq⟩ := (HU.out.later hG).spot (by rw [HN.out]; omega)
   obtain ⟨b', o', rfl, hq'⟩ := (HV.out.later hG).spot (by rw [HN.out]; omega)
   obtain ⟨p, hp, c0⟩ := hq k xs hxs
   obtain ⟨p', hp', c1⟩ := hq' k xs hxs
   obtain ⟨pa, m, pc, rfl, hm, hm1, hm2, hp⟩ := hp.form
   obtain ⟨pa', m', pc', rfl, hm', hm3, hm4, hp'⟩ := hp'.form
   obtain rfl : m = m' := hm.symm.trans hm'
   have HP := Lib.hid hp
   have HP' := Lib.hid hp'
   have HM := Lib.hid hm
   have HG := Lib.hid hG
   have HC0 := Lib.hid c0
   have HC1 := Lib.hid c1
   clear hxs hq hq' hp hp' hm hm' hG
   go_upto_region 6 with fail
   go_quiet (fail)
   have g1 : Grows wr (wr.drewN nq) := below_drewN (Below.refl _ _) nq
   generalize wr.drewN nq = w1 at *
   clear c0 c1
   have hG1 := HG.out.then g1
   have HD0 := Lib.hid ((g1.cell (World.block_lt_of_cell? wr _ HC0.out)).trans HC0.out)
   have HD1 := Lib.hid ((g1.cell (World.block_lt_of_cell? wr _ HC1.out)).trans HC1.out)
   have HQ := Lib.hid (HP.out.later g1)
   have HQ' := Lib.hid (HP'.out.later g1)
   have HGG := Lib.hid hG1
   clear HC0 HC1 HP HP' hG1 g1 HG
   go_wp2_with fail
   go_loopw [6] (fun i W => ∃ q : Nat, q ≤ m ∧ i = .int .i64 q ∧ Hid (Grows w1 W)) (fun i _ => m - (RowKit.intOf i).toNat)
   case atStart => exact ⟨0, Nat.zero_le _, rfl, Lib.hid (Below.refl _ _)⟩
   case round =>
    obtain ⟨q, hq, rfl, HW⟩ := hrel
    have c0 := (HW.out.cell (World.block_lt_of_cell? w1 _ HD0.out)).trans HD0.out
    have c1 := (HW.out.cell (World.block_lt_of_cell? w1 _ HD1.out)).trans HD1.out
    by_cases hlq : q < m
    ·have e1 : (q : Int) < m := by omega
     have e2 : (0 : Int) ≤ q := by omega
     have qu : (q : Int) + 1 ≤ 9223372036854775807 := by omega
     obtain ⟨x, hx⟩ : ∃ x, xs[q]? = some x := ⟨_, List.getElem?_eq_getElem (by rw [HM.out]; exact hlq)⟩
     obtain ⟨d, r, rfl, hd⟩ := (HQ.out.later HW.out).spot (by rw [HM.out]; omega)
     obtain ⟨d', r', rfl, hd'⟩ := (HQ'.out.later HW.out).spot (by rw [HM.out]; omega)
     have x0 := hd q x hx
     have x1 := hd' q x hx
     clear hx hd hd'
     go_upto_region 11 with fail
     go_quiet (fail)
     have g2 : Grows wr (wr.drewN nq) := below_drewN (Below.refl _ _) nq
     generalize wr.drewN nq = w2 at *
     have HW2 := Lib.hid (HW.out.then g2)
     clear c0 c1 x0 x1 g2 HW
     go_wp2_with fail
     go_roundw
     case rel => exact ⟨q + 1, by omega, by go_num, HW2⟩
     case measure => simp [RowKit.intOf]; omega
    ·obtain rfl : q = m := by omega
     go_wp2_with fail
     go_roundw
     case rel => exact ⟨k + 1, by omega, by go_num, HGG.out.then HW.out⟩
     case measure => simp [RowKit.intOf]; omega
  ·obtain rfl : k = n := by omega
   go_wp2_with fail
   go_ret
   exact ⟨rfl, hG⟩

end Go.Proofs.YtoaldbjcpfkcjaaGreat
