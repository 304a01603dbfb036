/- Check. -/
import Derived.Test.YtoaldbjcpfkcjaaGreatcCe
namespace Go.Proofs.YtoaldbjcpfkcjaaGreat
open Go.RowKit Go.Lib

/-- The error of a way, with those before it. -/
def chkW (x : Wy) (bs : List Wy) : Int :=
 if x.id < 1 then 1 else if bs.any (sameId x.id) = true then 6 else if chkP x.ln (simpleP x.ln) ≠ 0 then chkP x.ln (simpleP x.ln) else if (x.lv < -2 ∨ 2 < x.lv) ∨ (x.wt < 1 ∨ 255 < x.wt) then 3 else if bs.any (sameLv x.lv x.ln) = true then 16 else 0
section
variable {id lv wt ds : Int} {ln : List (Int × Int)} {cl nm : ByteArray} {st : Bool} {bs : List Wy} {e : Int}
theorem chk1 (h : id < 1) : chkW ⟨id, ln, lv, cl, nm, st, wt, ds⟩ bs = 1 := by unfold chkW; simp only; rw [if_pos h]
theorem chk2 (h : ¬ id < 1) (h2 : bs.any (sameId id) = true) : chkW ⟨id, ln, lv, cl, nm, st, wt, ds⟩ bs = 6 := by unfold chkW; simp only; rw [if_neg h, if_pos h2]
theorem chk3 (h : ¬ id < 1) (h2 : bs.any (sameId id) = false) (h3 : chkP ln (simpleP ln) = e) (h4 : ¬ e = 0) : chkW ⟨id, ln, lv, cl, nm, st, wt, ds⟩ bs = e := by unfold chkW; simp only; rw [if_neg h, if_neg (by rw [h2]; simp), h3, if_pos h4]
theorem chk4 (h : ¬ id < 1) (h2 : bs.any (sameId id) = false) (h3 : chkP ln (simpleP ln) = 0) (h4 : (lv < -2 ∨ 2 < lv) ∨ (wt < 1 ∨ 255 < wt)) : chkW ⟨id, ln, lv, cl, nm, st, wt, ds⟩ bs = 3 := by unfold chkW; simp only; rw [if_neg h, if_neg (by rw [h2]; simp), h3, if_neg (by simp), if_pos h4]
theorem chk5 (h : ¬ id < 1) (h2 : bs.any (sameId id) = false) (h3 : chkP ln (simpleP ln) = 0) (h4 : ¬ ((lv < -2 ∨ 2 < lv) ∨ (wt < 1 ∨ 255 < wt))) (h5 : bs.any (sameLv lv ln) = true) : chkW ⟨id, ln, lv, cl, nm, st, wt, ds⟩ bs = 16 := by unfold chkW; simp only; rw [if_neg h, if_neg (by rw [h2]; simp), h3, if_neg (by simp), if_neg h4, if_pos h5]
theorem chk6 (h : ¬ id < 1) (h2 : bs.any (sameId id) = false) (h3 : chkP ln (simpleP ln) = 0) (h4 : ¬ ((lv < -2 ∨ 2 < lv) ∨ (wt < 1 ∨ 255 < wt))) (h5 : bs.any (sameLv lv ln) = false) : chkW ⟨id, ln, lv, cl, nm, st, wt, ds⟩ bs = 0 := by unfold chkW; simp only; rw [if_neg h, if_neg (by rw [h2]; simp), h3, if_neg (by simp), if_neg h4, if_neg (by rw [h5]; simp)]
end
theorem lcheck_is (v : Value) (ps : List (Int × Int)) (e : Int) (h : chkP ps (simpleP ps) = e) (w : World) (hv : RowP w v ps) :
  Calls Tryz.prog 58 #[v] w fun e' w' => e' = .returned (.int .i64 e) ∧ Below w.heap.size w w' := h ▸ lcheck_any v ps w hv
set_option maxRecDepth 100000 in
set_option maxHeartbeats 4000000 in
theorem checkway_any (x : Wy) (u v : Value) (bs : List Wy) (w : World) (hu : RowP w u x.ln) (hv : RowW w v bs) :
  Calls Tryz.prog 33 #[wv x u, v] w fun e w' => e = .returned (.int .i64 (chkW x bs)) ∧ Below w.heap.size w w' := by
 obtain ⟨id, ln, lv, cl, nm, st, wt, ds⟩ := x
 obtain ⟨a, n, c, rfl, hn, hu⟩ := hu.form
 obtain ⟨va, vn, vc, rfl, hvn, -, -, hv⟩ := hv.form
 simp only at hu
 unfold wv
 simp only
 have HU := Lib.hid hu
 have HV := Lib.hid hv
 clear hn hu hvn hv
 by_cases h1 : id < 1
 ·rw [chk1 h1]
  have C0 := (Has.nil (Below.refl w.heap.size w)).push [.int .i64 id, .slice a n c, .int .i64 lv, .string cl, .string nm, .bool st, .int .i64 wt, .int .i64 ds] 44
  go_enter Tryz.func33, Tryz.ntmps33
  go_upto_region 1 with fail
  change Has w _ (w.alloc (.cells #[.int .i64 id, .slice a n c, .int .i64 lv, .string cl, .string nm, .bool st, .int .i64 wt, .int .i64 ds] 44)) at C0
  generalize w.alloc (.cells #[.int .i64 id, .slice a n c, .int .i64 lv, .string cl, .string nm, .bool st, .int .i64 wt, .int .i64 ds] 44) = w0 at *
  have k0 := C0.fact (.head _) (i := 0) rfl
  have k1 := C0.fact (.head _) (i := 1) rfl
  have k2 := C0.fact (.head _) (i := 2) rfl
  have k3 := C0.fact (.head _) (i := 3) rfl
  have k4 := C0.fact (.head _) (i := 4) rfl
  have k5 := C0.fact (.head _) (i := 5) rfl
  have k6 := C0.fact (.head _) (i := 6) rfl
  have k7 := C0.fact (.head _) (i := 7) rfl
  have HC0 := Lib.hid C0
  clear C0
  go_wp2_with fail
  go_ret
  exact ⟨rfl, HC0.out.low⟩
 ·cases hi : bs.any (sameId id)
  ·have HI := Lib.hid hi
   clear hi
   obtain ⟨e, he⟩ : ∃ e, chkP ln (simpleP ln) = e := ⟨_, rfl⟩
   by_cases h3 : e = 0
   ·subst h3
    have HE := Lib.hid he
    clear he
    by_cases q1 : lv < -2
    ·rw [chk4 h1 HI.out HE.out (by omega)]
     have C0 := (Has.nil (Below.refl w.heap.size w)).push [.int .i64 id, .slice a n c, .int .i64 lv, .string cl, .string nm, .bool st, .int .i64 wt, .int .i64 ds] 44
     go_enter Tryz.func33, Tryz.ntmps33
     go_upto_region 1 with fail
     change Has w _ (w.alloc (.cells #[.int .i64 id, .slice a n c, .int .i64 lv, .string cl, .string nm, .bool st, .int .i64 wt, .int .i64 ds] 44)) at C0
     generalize w.alloc (.cells #[.int .i64 id, .slice a n c, .int .i64 lv, .string cl, .string nm, .bool st, .int .i64 wt, .int .i64 ds] 44) = w0 at *
     have k0 := C0.fact (.head _) (i := 0) rfl
     have k1 := C0.fact (.head _) (i := 1) rfl
     have k2 := C0.fact (.head _) (i := 2) rfl
     have k3 := C0.fact (.head _) (i := 3) rfl
     have k4 := C0.fact (.head _) (i := 4) rfl
     have k5 := C0.fact (.head _) (i := 5) rfl
     have k6 := C0.fact (.head _) (i := 6) rfl
     have k7 := C0.fact (.head _) (i := 7) rfl
     have HXC1 := Lib.hid (containsid_is _ bs w.heap.size id false HI.out w0 (HV.out.later C0.low) k0)
     have HC0 := Lib.hid C0
     clear C0
     go_wp2_with fail
     refine HXC1.out.mono ?_
     rintro e w1 ⟨rfl, g⟩
     have C1 := HC0.out.later g
     clear k0 k1 k2 k3 k4 k5 k6 k7
     clear HXC1 g HC0
     have k0 := C1.fact (.head _) (i := 0) rfl
     have k1 := C1.fact (.head _) (i := 1) rfl
     have k2 := C1.fact (.head _) (i := 2) rfl
     have k3 := C1.fact (.head _) (i := 3) rfl
     have k4 := C1.fact (.head _) (i := 4) rfl
     have k5 := C1.fact (.head _) (i := 5) rfl
     have k6 := C1.fact (.head _) (i := 6) rfl
     have k7 := C1.fact (.head _) (i := 7) rfl
     have HXC2 := Lib.hid (lcheck_is _ ln 0 HE.out w1 (HU.out.later C1.low))
     have HC1 := Lib.hid C1
     clear C1
     go_wp2_with fail
     refine HXC2.out.mono ?_
     rintro e w2 ⟨rfl, g⟩
     have C2 := HC1.out.later g
     clear k0 k1 k2 k3 k4 k5 k6 k7
     clear HXC2 g HC1
     have k0 := C2.fact (.head _) (i := 0) rfl
     have k1 := C2.fact (.head _) (i := 1) rfl
     have k2 := C2.fact (.head _) (i := 2) rfl
     have k3 := C2.fact (.head _) (i := 3) rfl
     have k4 := C2.fact (.head _) (i := 4) rfl
     have k5 := C2.fact (.head _) (i := 5) rfl
     have k6 := C2.fact (.head _) (i := 6) rfl
     have k7 := C2.fact (.head _) (i := 7) rfl
     have HC2 := Lib.hid C2
     clear C2
     go_wp2_with fail
     go_ret
     exact ⟨rfl, HC2.out.low⟩
    ·by_cases q2 : 2 < lv
     ·rw [chk4 h1 HI.out HE.out (by omega)]
      have C0 := (Has.nil (Below.refl w.heap.size w)).push [.int .i64 id, .slice a n c, .int .i64 lv, .string cl, .string nm, .bool st, .int .i64 wt, .int .i64 ds] 44
      go_enter Tryz.func33, Tryz.ntmps33
      go_upto_region 1 with fail
      change Has w _ (w.alloc (.cells #[.int .i64 id, .slice a n c, .int .i64 lv, .string cl, .string nm, .bool st, .int .i64 wt, .int .i64 ds] 44)) at C0
      generalize w.alloc (.cells #[.int .i64 id, .slice a n c, .int .i64 lv, .string cl, .string nm, .bool st, .int .i64 wt, .int .i64 ds] 44) = w0 at *
      have k0 := C0.fact (.head _) (i := 0) rfl
      have k1 := C0.fact (.head _) (i := 1) rfl
      have k2 := C0.fact (.head _) (i := 2) rfl
      have k3 := C0.fact (.head _) (i := 3) rfl
      have k4 := C0.fact (.head _) (i := 4) rfl
      have k5 := C0.fact (.head _) (i := 5) rfl
      have k6 := C0.fact (.head _) (i := 6) rfl
      have k7 := C0.fact (.head _) (i := 7) rfl
      have HXC1 := Lib.hid (containsid_is _ bs w.heap.size id false HI.out w0 (HV.out.later C0.low) k0)
      have HC0 := Lib.hid C0
      clear C0
      go_wp2_with fail
      refine HXC1.out.mono ?_
      rintro e w1 ⟨rfl, g⟩
      have C1 := HC0.out.later g
      clear k0 k1 k2 k3 k4 k5 k6 k7
      clear HXC1 g HC0
      have k0 := C1.fact (.head _) (i := 0) rfl
      have k1 := C1.fact (.head _) (i := 1) rfl
      have k2 := C1.fact (.head _) (i := 2) rfl
      have k3 := C1.fact (.head _) (i := 3) rfl
      have k4 := C1.fact (.head _) (i := 4) rfl
      have k5 := C1.fact (.head _) (i := 5) rfl
      have k6 := C1.fact (.head _) (i := 6) rfl
      have k7 := C1.fact (.head _) (i := 7) rfl
      have HXC2 := Lib.hid (lcheck_is _ ln 0 HE.out w1 (HU.out.later C1.low))
      have HC1 := Lib.hid C1
      clear C1
      go_wp2_with fail
      refine HXC2.out.mono ?_
      rintro e w2 ⟨rfl, g⟩
      have C2 := HC1.out.later g
      clear k0 k1 k2 k3 k4 k5 k6 k7
      clear HXC2 g HC1
      have k0 := C2.fact (.head _) (i := 0) rfl
      have k1 := C2.fact (.head _) (i := 1) rfl
      have k2 := C2.fact (.head _) (i := 2) rfl
      have k3 := C2.fact (.head _) (i := 3) rfl
      have k4 := C2.fact (.head _) (i := 4) rfl
      have k5 := C2.fact (.head _) (i := 5) rfl
      have k6 := C2.fact (.head _) (i := 6) rfl
      have k7 := C2.fact (.head _) (i := 7) rfl
      have HC2 := Lib.hid C2
      clear C2
      go_wp2_with fail
      go_ret
      exact ⟨rfl, HC2.out.low⟩
     ·by_cases q3 : wt < 1
      ·rw [chk4 h1 HI.out HE.out (by omega)]
       have C0 := (Has.nil (Below.refl w.heap.size w)).push [.int .i64 id, .slice a n c, .int .i64 lv, .string cl, .string nm, .bool st, .int .i64 wt, .int .i64 ds] 44
       go_enter Tryz.func33, Tryz.ntmps33
       go_upto_region 1 with fail
       change Has w _ (w.alloc (.cells #[.int .i64 id, .slice a n c, .int .i64 lv, .string cl, .string nm, .bool st, .int .i64 wt, .int .i64 ds] 44)) at C0
       generalize w.alloc (.cells #[.int .i64 id, .slice a n c, .int .i64 lv, .string cl, .string nm, .bool st, .int .i64 wt, .int .i64 ds] 44) = w0 at *
       have k0 := C0.fact (.head _) (i := 0) rfl
       have k1 := C0.fact (.head _) (i := 1) rfl
       have k2 := C0.fact (.head _) (i := 2) rfl
       have k3 := C0.fact (.head _) (i := 3) rfl
       have k4 := C0.fact (.head _) (i := 4) rfl
       have k5 := C0.fact (.head _) (i := 5) rfl
       have k6 := C0.fact (.head _) (i := 6) rfl
       have k7 := C0.fact (.head _) (i := 7) rfl
       have HXC1 := Lib.hid (containsid_is _ bs w.heap.size id false HI.out w0 (HV.out.later C0.low) k0)
       have HC0 := Lib.hid C0
       clear C0
       go_wp2_with fail
       refine HXC1.out.mono ?_
       rintro e w1 ⟨rfl, g⟩
       have C1 := HC0.out.later g
       clear k0 k1 k2 k3 k4 k5 k6 k7
       clear HXC1 g HC0
       have k0 := C1.fact (.head _) (i := 0) rfl
       have k1 := C1.fact (.head _) (i := 1) rfl
       have k2 := C1.fact (.head _) (i := 2) rfl
       have k3 := C1.fact (.head _) (i := 3) rfl
       have k4 := C1.fact (.head _) (i := 4) rfl
       have k5 := C1.fact (.head _) (i := 5) rfl
       have k6 := C1.fact (.head _) (i := 6) rfl
       have k7 := C1.fact (.head _) (i := 7) rfl
       have HXC2 := Lib.hid (lcheck_is _ ln 0 HE.out w1 (HU.out.later C1.low))
       have HC1 := Lib.hid C1
       clear C1
       go_wp2_with fail
       refine HXC2.out.mono ?_
       rintro e w2 ⟨rfl, g⟩
       have C2 := HC1.out.later g
       clear k0 k1 k2 k3 k4 k5 k6 k7
       clear HXC2 g HC1
       have k0 := C2.fact (.head _) (i := 0) rfl
       have k1 := C2.fact (.head _) (i := 1) rfl
       have k2 := C2.fact (.head _) (i := 2) rfl
       have k3 := C2.fact (.head _) (i := 3) rfl
       have k4 := C2.fact (.head _) (i := 4) rfl
       have k5 := C2.fact (.head _) (i := 5) rfl
       have k6 := C2.fact (.head _) (i := 6) rfl
       have k7 := C2.fact (.head _) (i := 7) rfl
       have HC2 := Lib.hid C2
       clear C2
       go_wp2_with fail
       go_ret
       exact ⟨rfl, HC2.out.low⟩
      ·by_cases q4 : 255 < wt
       ·rw [chk4 h1 HI.out HE.out (by omega)]
        have C0 := (Has.nil (Below.refl w.heap.size w)).push [.int .i64 id, .slice a n c, .int .i64 lv, .string cl, .string nm, .bool st, .int .i64 wt, .int .i64 ds] 44
        go_enter Tryz.func33, Tryz.ntmps33
        go_upto_region 1 with fail
        change Has w _ (w.alloc (.cells #[.int .i64 id, .slice a n c, .int .i64 lv, .string cl, .string nm, .bool st, .int .i64 wt, .int .i64 ds] 44)) at C0
        generalize w.alloc (.cells #[.int .i64 id, .slice a n c, .int .i64 lv, .string cl, .string nm, .bool st, .int .i64 wt, .int .i64 ds] 44) = w0 at *
        have k0 := C0.fact (.head _) (i := 0) rfl
        have k1 := C0.fact (.head _) (i := 1) rfl
        have k2 := C0.fact (.head _) (i := 2) rfl
        have k3 := C0.fact (.head _) (i := 3) rfl
        have k4 := C0.fact (.head _) (i := 4) rfl
        have k5 := C0.fact (.head _) (i := 5) rfl
        have k6 := C0.fact (.head _) (i := 6) rfl
        have k7 := C0.fact (.head _) (i := 7) rfl
        have HXC1 := Lib.hid (containsid_is _ bs w.heap.size id false HI.out w0 (HV.out.later C0.low) k0)
        have HC0 := Lib.hid C0
        clear C0
        go_wp2_with fail
        refine HXC1.out.mono ?_
        rintro e w1 ⟨rfl, g⟩
        have C1 := HC0.out.later g
        clear k0 k1 k2 k3 k4 k5 k6 k7
        clear HXC1 g HC0
        have k0 := C1.fact (.head _) (i := 0) rfl
        have k1 := C1.fact (.head _) (i := 1) rfl
        have k2 := C1.fact (.head _) (i := 2) rfl
        have k3 := C1.fact (.head _) (i := 3) rfl
        have k4 := C1.fact (.head _) (i := 4) rfl
        have k5 := C1.fact (.head _) (i := 5) rfl
        have k6 := C1.fact (.head _) (i := 6) rfl
        have k7 := C1.fact (.head _) (i := 7) rfl
        have HXC2 := Lib.hid (lcheck_is _ ln 0 HE.out w1 (HU.out.later C1.low))
        have HC1 := Lib.hid C1
        clear C1
        go_wp2_with fail
        refine HXC2.out.mono ?_
        rintro e w2 ⟨rfl, g⟩
        have C2 := HC1.out.later g
        clear k0 k1 k2 k3 k4 k5 k6 k7
        clear HXC2 g HC1
        have k0 := C2.fact (.head _) (i := 0) rfl
        have k1 := C2.fact (.head _) (i := 1) rfl
        have k2 := C2.fact (.head _) (i := 2) rfl
        have k3 := C2.fact (.head _) (i := 3) rfl
        have k4 := C2.fact (.head _) (i := 4) rfl
        have k5 := C2.fact (.head _) (i := 5) rfl
        have k6 := C2.fact (.head _) (i := 6) rfl
        have k7 := C2.fact (.head _) (i := 7) rfl
        have HC2 := Lib.hid C2
        clear C2
        go_wp2_with fail
        go_ret
        exact ⟨rfl, HC2.out.low⟩
       ·cases hl : bs.any (sameLv lv ln)
        ·have HL := Lib.hid hl
         clear hl
         rw [chk6 h1 HI.out HE.out (by omega) HL.out]
         have C0 := (Has.nil (Below.refl w.heap.size w)).push [.int .i64 id, .slice a n c, .int .i64 lv, .string cl, .string nm, .bool st, .int .i64 wt, .int .i64 ds] 44
         go_enter Tryz.func33, Tryz.ntmps33
         go_upto_region 1 with fail
         change Has w _ (w.alloc (.cells #[.int .i64 id, .slice a n c, .int .i64 lv, .string cl, .string nm, .bool st, .int .i64 wt, .int .i64 ds] 44)) at C0
         generalize w.alloc (.cells #[.int .i64 id, .slice a n c, .int .i64 lv, .string cl, .string nm, .bool st, .int .i64 wt, .int .i64 ds] 44) = w0 at *
         have k0 := C0.fact (.head _) (i := 0) rfl
         have k1 := C0.fact (.head _) (i := 1) rfl
         have k2 := C0.fact (.head _) (i := 2) rfl
         have k3 := C0.fact (.head _) (i := 3) rfl
         have k4 := C0.fact (.head _) (i := 4) rfl
         have k5 := C0.fact (.head _) (i := 5) rfl
         have k6 := C0.fact (.head _) (i := 6) rfl
         have k7 := C0.fact (.head _) (i := 7) rfl
         have HXC1 := Lib.hid (containsid_is _ bs w.heap.size id false HI.out w0 (HV.out.later C0.low) k0)
         have HC0 := Lib.hid C0
         clear C0
         go_wp2_with fail
         refine HXC1.out.mono ?_
         rintro e w1 ⟨rfl, g⟩
         have C1 := HC0.out.later g
         clear k0 k1 k2 k3 k4 k5 k6 k7
         clear HXC1 g HC0
         have k0 := C1.fact (.head _) (i := 0) rfl
         have k1 := C1.fact (.head _) (i := 1) rfl
         have k2 := C1.fact (.head _) (i := 2) rfl
         have k3 := C1.fact (.head _) (i := 3) rfl
         have k4 := C1.fact (.head _) (i := 4) rfl
         have k5 := C1.fact (.head _) (i := 5) rfl
         have k6 := C1.fact (.head _) (i := 6) rfl
         have k7 := C1.fact (.head _) (i := 7) rfl
         have HXC2 := Lib.hid (lcheck_is _ ln 0 HE.out w1 (HU.out.later C1.low))
         have HC1 := Lib.hid C1
         clear C1
         go_wp2_with fail
         refine HXC2.out.mono ?_
         rintro e w2 ⟨rfl, g⟩
         have C2 := HC1.out.later g
         clear k0 k1 k2 k3 k4 k5 k6 k7
         clear HXC2 g HC1
         have k0 := C2.fact (.head _) (i := 0) rfl
         have k1 := C2.fact (.head _) (i := 1) rfl
         have k2 := C2.fact (.head _) (i := 2) rfl
         have k3 := C2.fact (.head _) (i := 3) rfl
         have k4 := C2.fact (.head _) (i := 4) rfl
         have k5 := C2.fact (.head _) (i := 5) rfl
         have k6 := C2.fact (.head _) (i := 6) rfl
         have k7 := C2.fact (.head _) (i := 7) rfl
         have HXC3 := Lib.hid (containslv_is _ bs w.heap.size lv _ ln false HL.out w2 (HV.out.later C2.low) (HU.out.later C2.low) k2 k1)
         have HC2 := Lib.hid C2
         clear C2
         go_wp2_with fail
         refine HXC3.out.mono ?_
         rintro e w3 ⟨rfl, g⟩
         have C3 := HC2.out.later g
         clear k0 k1 k2 k3 k4 k5 k6 k7
         clear HXC3 g HC2
         have k0 := C3.fact (.head _) (i := 0) rfl
         have k1 := C3.fact (.head _) (i := 1) rfl
         have k2 := C3.fact (.head _) (i := 2) rfl
         have k3 := C3.fact (.head _) (i := 3) rfl
         have k4 := C3.fact (.head _) (i := 4) rfl
         have k5 := C3.fact (.head _) (i := 5) rfl
         have k6 := C3.fact (.head _) (i := 6) rfl
         have k7 := C3.fact (.head _) (i := 7) rfl
         have HC3 := Lib.hid C3
         clear C3
         go_wp2_with fail
         go_ret
         exact ⟨rfl, HC3.out.low⟩
        ·have HL := Lib.hid hl
         clear hl
         rw [chk5 h1 HI.out HE.out (by omega) HL.out]
         have C0 := (Has.nil (Below.refl w.heap.size w)).push [.int .i64 id, .slice a n c, .int .i64 lv, .string cl, .string nm, .bool st, .int .i64 wt, .int .i64 ds] 44
         go_enter Tryz.func33, Tryz.ntmps33
         go_upto_region 1 with fail
         change Has w _ (w.alloc (.cells #[.int .i64 id, .slice a n c, .int .i64 lv, .string cl, .string nm, .bool st, .int .i64 wt, .int .i64 ds] 44)) at C0
         generalize w.alloc (.cells #[.int .i64 id, .slice a n c, .int .i64 lv, .string cl, .string nm, .bool st, .int .i64 wt, .int .i64 ds] 44) = w0 at *
         have k0 := C0.fact (.head _) (i := 0) rfl
         have k1 := C0.fact (.head _) (i := 1) rfl
         have k2 := C0.fact (.head _) (i := 2) rfl
         have k3 := C0.fact (.head _) (i := 3) rfl
         have k4 := C0.fact (.head _) (i := 4) rfl
         have k5 := C0.fact (.head _) (i := 5) rfl
         have k6 := C0.fact (.head _) (i := 6) rfl
         have k7 := C0.fact (.head _) (i := 7) rfl
         have HXC1 := Lib.hid (containsid_is _ bs w.heap.size id false HI.out w0 (HV.out.later C0.low) k0)
         have HC0 := Lib.hid C0
         clear C0
         go_wp2_with fail
         refine HXC1.out.mono ?_
         rintro e w1 ⟨rfl, g⟩
         have C1 := HC0.out.later g
         clear k0 k1 k2 k3 k4 k5 k6 k7
         clear HXC1 g HC0
         have k0 := C1.fact (.head _) (i := 0) rfl
         have k1 := C1.fact (.head _) (i := 1) rfl
         have k2 := C1.fact (.head _) (i := 2) rfl
         have k3 := C1.fact (.head _) (i := 3) rfl
         have k4 := C1.fact (.head _) (i := 4) rfl
         have k5 := C1.fact (.head _) (i := 5) rfl
         have k6 := C1.fact (.head _) (i := 6) rfl
         have k7 := C1.fact (.head _) (i := 7) rfl
         have HXC2 := Lib.hid (lcheck_is _ ln 0 HE.out w1 (HU.out.later C1.low))
         have HC1 := Lib.hid C1
         clear C1
         go_wp2_with fail
         refine HXC2.out.mono ?_
         rintro e w2 ⟨rfl, g⟩
         have C2 := HC1.out.later g
         clear k0 k1 k2 k3 k4 k5 k6 k7
         clear HXC2 g HC1
         have k0 := C2.fact (.head _) (i := 0) rfl
         have k1 := C2.fact (.head _) (i := 1) rfl
         have k2 := C2.fact (.head _) (i := 2) rfl
         have k3 := C2.fact (.head _) (i := 3) rfl
         have k4 := C2.fact (.head _) (i := 4) rfl
         have k5 := C2.fact (.head _) (i := 5) rfl
         have k6 := C2.fact (.head _) (i := 6) rfl
         have k7 := C2.fact (.head _) (i := 7) rfl
         have HXC3 := Lib.hid (containslv_is _ bs w.heap.size lv _ ln true HL.out w2 (HV.out.later C2.low) (HU.out.later C2.low) k2 k1)
         have HC2 := Lib.hid C2
         clear C2
         go_wp2_with fail
         refine HXC3.out.mono ?_
         rintro e w3 ⟨rfl, g⟩
         have C3 := HC2.out.later g
         clear k0 k1 k2 k3 k4 k5 k6 k7
         clear HXC3 g HC2
         have k0 := C3.fact (.head _) (i := 0) rfl
         have k1 := C3.fact (.head _) (i := 1) rfl
         have k2 := C3.fact (.head _) (i := 2) rfl
         have k3 := C3.fact (.head _) (i := 3) rfl
         have k4 := C3.fact (.head _) (i := 4) rfl
         have k5 := C3.fact (.head _) (i := 5) rfl
         have k6 := C3.fact (.head _) (i := 6) rfl
         have k7 := C3.fact (.head _) (i := 7) rfl
         have HC3 := Lib.hid C3
         clear C3
         go_wp2_with fail
         go_ret
         exact ⟨rfl, HC3.out.low⟩
   ·have HE := Lib.hid he
    clear he
    have z : (e == 0) = false := by simpa using h3
    rw [chk3 h1 HI.out HE.out h3]
    clear h3
    have C0 := (Has.nil (Below.refl w.heap.size w)).push [.int .i64 id, .slice a n c, .int .i64 lv, .string cl, .string nm, .bool st, .int .i64 wt, .int .i64 ds] 44
    go_enter Tryz.func33, Tryz.ntmps33
    go_upto_region 1 with fail
    change Has w _ (w.alloc (.cells #[.int .i64 id, .slice a n c, .int .i64 lv, .string cl, .string nm, .bool st, .int .i64 wt, .int .i64 ds] 44)) at C0
    generalize w.alloc (.cells #[.int .i64 id, .slice a n c, .int .i64 lv, .string cl, .string nm, .bool st, .int .i64 wt, .int .i64 ds] 44) = w0 at *
    have k0 := C0.fact (.head _) (i := 0) rfl
    have k1 := C0.fact (.head _) (i := 1) rfl
    have k2 := C0.fact (.head _) (i := 2) rfl
    have k3 := C0.fact (.head _) (i := 3) rfl
    have k4 := C0.fact (.head _) (i := 4) rfl
    have k5 := C0.fact (.head _) (i := 5) rfl
    have k6 := C0.fact (.head _) (i := 6) rfl
    have k7 := C0.fact (.head _) (i := 7) rfl
    have HXC1 := Lib.hid (containsid_is _ bs w.heap.size id false HI.out w0 (HV.out.later C0.low) k0)
    have HC0 := Lib.hid C0
    clear C0
    go_wp2_with fail
    refine HXC1.out.mono ?_
    rintro e w1 ⟨rfl, g⟩
    have C1 := HC0.out.later g
    clear k0 k1 k2 k3 k4 k5 k6 k7
    clear HXC1 g HC0
    have k0 := C1.fact (.head _) (i := 0) rfl
    have k1 := C1.fact (.head _) (i := 1) rfl
    have k2 := C1.fact (.head _) (i := 2) rfl
    have k3 := C1.fact (.head _) (i := 3) rfl
    have k4 := C1.fact (.head _) (i := 4) rfl
    have k5 := C1.fact (.head _) (i := 5) rfl
    have k6 := C1.fact (.head _) (i := 6) rfl
    have k7 := C1.fact (.head _) (i := 7) rfl
    have HXC2 := Lib.hid (lcheck_is _ ln e HE.out w1 (HU.out.later C1.low))
    have HC1 := Lib.hid C1
    clear C1
    go_wp2_with fail
    refine HXC2.out.mono ?_
    rintro e w2 ⟨rfl, g⟩
    have C2 := HC1.out.later g
    clear k0 k1 k2 k3 k4 k5 k6 k7
    clear HXC2 g HC1
    have k0 := C2.fact (.head _) (i := 0) rfl
    have k1 := C2.fact (.head _) (i := 1) rfl
    have k2 := C2.fact (.head _) (i := 2) rfl
    have k3 := C2.fact (.head _) (i := 3) rfl
    have k4 := C2.fact (.head _) (i := 4) rfl
    have k5 := C2.fact (.head _) (i := 5) rfl
    have k6 := C2.fact (.head _) (i := 6) rfl
    have k7 := C2.fact (.head _) (i := 7) rfl
    have HC2 := Lib.hid C2
    clear C2
    go_wp2_with fail
    go_ret
    exact ⟨rfl, HC2.out.low⟩
  ·have HI := Lib.hid hi
   clear hi
   rw [chk2 h1 HI.out]
   have C0 := (Has.nil (Below.refl w.heap.size w)).push [.int .i64 id, .slice a n c, .int .i64 lv, .string cl, .string nm, .bool st, .int .i64 wt, .int .i64 ds] 44
   go_enter Tryz.func33, Tryz.ntmps33
   go_upto_region 1 with fail
   change Has w _ (w.alloc (.cells #[.int .i64 id, .slice a n c, .int .i64 lv, .string cl, .string nm, .bool st, .int .i64 wt, .int .i64 ds] 44)) at C0
   generalize w.alloc (.cells #[.int .i64 id, .slice a n c, .int .i64 lv, .string cl, .string nm, .bool st, .int .i64 wt, .int .i64 ds] 44) = w0 at *
   have k0 := C0.fact (.head _) (i := 0) rfl
   have k1 := C0.fact (.head _) (i := 1) rfl
   have k2 := C0.fact (.head _) (i := 2) rfl
   have k3 := C0.fact (.head _) (i := 3) rfl
   have k4 := C0.fact (.head _) (i := 4) rfl
   have k5 := C0.fact (.head _) (i := 5) rfl
   have k6 := C0.fact (.head _) (i := 6) rfl
   have k7 := C0.fact (.head _) (i := 7) rfl
   have HXC1 := Lib.hid (containsid_is _ bs w.heap.size id true HI.out w0 (HV.out.later C0.low) k0)
   have HC0 := Lib.hid C0
   clear C0
   go_wp2_with fail
   refine HXC1.out.mono ?_
   rintro e w1 ⟨rfl, g⟩
   have C1 := HC0.out.later g
   clear k0 k1 k2 k3 k4 k5 k6 k7
   clear HXC1 g HC0
   have k0 := C1.fact (.head _) (i := 0) rfl
   have k1 := C1.fact (.head _) (i := 1) rfl
   have k2 := C1.fact (.head _) (i := 2) rfl
   have k3 := C1.fact (.head _) (i := 3) rfl
   have k4 := C1.fact (.head _) (i := 4) rfl
   have k5 := C1.fact (.head _) (i := 5) rfl
   have k6 := C1.fact (.head _) (i := 6) rfl
   have k7 := C1.fact (.head _) (i := 7) rfl
   have HC1 := Lib.hid C1
   clear C1
   go_wp2_with fail
   go_ret
   exact ⟨rfl, HC1.out.low⟩
theorem checkway_is (x : Wy) (u v : Value) (bs : List Wy) (r : Int) (h : chkW x bs = r) (w : World) (hu : RowP w u x.ln) (hv : RowW w v bs) :
  Calls Tryz.prog 33 #[wv x u, v] w fun e w' => e = .returned (.int .i64 r) ∧ Below w.heap.size w w' := h ▸ checkway_any x u v bs w hu hv
/-- The first error of the first ways. -/
def chkTo (ws : List Wy) : Nat → Int
 | 0 => 0
 | k + 1 => if chkTo ws k ≠ 0 then chkTo ws k else match ws[k]? with | some x => chkW x (ws.take k) | none => 0
def checkN (ws : List Wy) : Int := if 80 < ws.length then 2 else chkTo ws ws.length
theorem chkTo_next {ws : List Wy} {k : Nat} {x : Wy} (h : chkTo ws k = 0) (hx : ws[k]? = some x) : chkTo ws (k + 1) = chkW x (ws.take k) := by
 rw [chkTo, if_neg (by rw [h]; simp), hx]
theorem chkTo_stays {ws : List Wy} {k n : Nat} (h : chkTo ws k ≠ 0) (hn : k ≤ n) : chkTo ws n = chkTo ws k := by
 induction n with
 | zero =>
  obtain rfl : k = 0 := by omega
  rfl
 | succ n ih =>
  by_cases e : k = n + 1
  ·rw [e]
  ·have := ih (by omega)
   rw [chkTo, if_pos (by rw [this]; exact h), this]
set_option maxRecDepth 100000 in
set_option maxHeartbeats 4000000 in
theorem checkn_any (v : Value) (ws : List Wy) (w : World) (hv : RowW w v ws) :
  Calls Tryz.prog 13 #[v] w fun e w' => e = .returned (.int .i64 (checkN ws)) ∧ Below w.heap.size w w' := by
 obtain ⟨va, N, vc, rfl, hN, hc1, hc2, hv⟩ := hv.form
 obtain ⟨r, hr⟩ : ∃ r, checkN ws = r := ⟨_, rfl⟩
 rw [hr]
 by_cases hm : 80 < N
 ·have hb : (80 : Int) < N := by omega
  obtain rfl : 2 = r := by rw [← hr]; unfold checkN; rw [if_pos (by omega)]
  clear hv hr
  go_enter Tryz.func13, Tryz.ntmps13
  go_wp2_with fail
  go_ret
  exact ⟨rfl, Below.refl _ _⟩
 ·have hb : (N : Int) ≤ 80 := by omega
  have HR := Lib.hid (show chkTo ws N = r from by rw [← hr]; unfold checkN; rw [if_neg (by omega), hN])
  have HV := Lib.hid hv
  have HN := Lib.hid hN
  clear hv hr hN
  go_enter Tryz.func13, Tryz.ntmps13
  go_wp2_with fail
  go_loopw [11] (fun i wr => ∃ k : Nat, k ≤ N ∧ i = .int .i64 k ∧ Hid (chkTo ws k = 0) ∧ Grows w wr) (fun i _ => N - (RowKit.intOf i).toNat)
  case atStart => exact ⟨0, Nat.zero_le _, rfl, Lib.hid rfl, Below.refl _ _⟩
  case round =>
   obtain ⟨k, hk, rfl, HK, hG⟩ := hrel
   by_cases hlt : k < N
   ·have b1 : (k : Int) < N := by omega
    have b2 : (0 : Int) ≤ k := by omega
    have b3 : (k : Int) ≤ vc := by omega
    have b4 : k ≤ vc := by omega
    have hR := HV.out.later hG
    obtain ⟨bb, oo, rfl, hq0⟩ := hR.spot (by rw [HN.out]; omega)
    obtain ⟨t, ht⟩ : ∃ t, ws[k]? = some t := ⟨_, List.getElem?_eq_getElem (by rw [HN.out]; exact hlt)⟩
    obtain ⟨u, hu, c0, c1, c2, c3, c4, c5, c6, c7⟩ := hq0 k t ht
    obtain ⟨id, ln, lv, cl, nm, st, wt, ds⟩ := t
    simp only at hu c0 c1 c2 c3 c4 c5 c6 c7
    obtain ⟨a, n, c, rfl, hn, hu⟩ := hu.form
    obtain ⟨z, hz⟩ : ∃ z, chkW ⟨id, ln, lv, cl, nm, st, wt, ds⟩ (ws.take k) = z := ⟨_, rfl⟩
    have HZ := Lib.hid hz
    have HX := Lib.hid (show chkTo ws (k + 1) = z from (chkTo_next HK.out ht).trans hz)
    have C1 := (Has.nil hG).push [.int .i64 id, .slice a n c, .int .i64 lv, .string cl, .string nm, .bool st, .int .i64 wt, .int .i64 ds] 44
    have G1 : Grows wr (wr.alloc (.cells #[.int .i64 id, .slice a n c, .int .i64 lv, .string cl, .string nm, .bool st, .int .i64 wt, .int .i64 ds] 44)) := (Below.refl _ wr).alloc (Nat.le_refl _) _
    clear hq0 hR ht hn hz hG
    go_upto_region 6 with fail
    clear c0 c1 c2 c3 c4 c5 c6 c7
    change Has w _ (wr.alloc (.cells #[.int .i64 id, .slice a n c, .int .i64 lv, .string cl, .string nm, .bool st, .int .i64 wt, .int .i64 ds] 44)) at C1
    generalize wr.alloc (.cells #[.int .i64 id, .slice a n c, .int .i64 lv, .string cl, .string nm, .bool st, .int .i64 wt, .int .i64 ds] 44) = w1 at *
    generalize wr.heap.size = P at *
    have HU := Lib.hid (hu.later G1)
    clear hu G1
    have HSD := Lib.hid (show ∀ w', Has w [(P, [.int .i64 id, .slice a n c, .int .i64 lv, .string cl, .string nm, .bool st, .int .i64 wt, .int .i64 ds])] w' → (w'.cell? ⟨P, 0, none⟩ = some (.int .i64 id) ∧ w'.cell? ⟨P, 1, none⟩ = some (.slice a n c) ∧ w'.cell? ⟨P, 2, none⟩ = some (.int .i64 lv) ∧ w'.cell? ⟨P, 3, none⟩ = some (.string cl) ∧ w'.cell? ⟨P, 4, none⟩ = some (.string nm) ∧ w'.cell? ⟨P, 5, none⟩ = some (.bool st) ∧ w'.cell? ⟨P, 6, none⟩ = some (.int .i64 wt) ∧ w'.cell? ⟨P, 7, none⟩ = some (.int .i64 ds)) ∧ Has w [(P, [.int .i64 id, .slice a n c, .int .i64 lv, .string cl, .string nm, .bool st, .int .i64 wt, .int .i64 ds])] w' from fun w' h => by
     exact ⟨⟨h.fact (.head _) (i := 0) rfl, h.fact (.head _) (i := 1) rfl, h.fact (.head _) (i := 2) rfl, h.fact (.head _) (i := 3) rfl, h.fact (.head _) (i := 4) rfl, h.fact (.head _) (i := 5) rfl, h.fact (.head _) (i := 6) rfl, h.fact (.head _) (i := 7) rfl⟩, h⟩)
    have CD0 := C1.drew
    have GD0 : Grows w1 w1.drew := (Below.refl _ w1).drew
    refine wp_region_held_drew (S := (fun w' => (w'.cell? ⟨P, 0, none⟩ = some (.int .i64 id) ∧ w'.cell? ⟨P, 1, none⟩ = some (.slice a n c) ∧ w'.cell? ⟨P, 2, none⟩ = some (.int .i64 lv) ∧ w'.cell? ⟨P, 3, none⟩ = some (.string cl) ∧ w'.cell? ⟨P, 4, none⟩ = some (.string nm) ∧ w'.cell? ⟨P, 5, none⟩ = some (.bool st) ∧ w'.cell? ⟨P, 6, none⟩ = some (.int .i64 wt) ∧ w'.cell? ⟨P, 7, none⟩ = some (.int .i64 ds)) ∧ Has w [(P, [.int .i64 id, .slice a n c, .int .i64 lv, .string cl, .string nm, .bool st, .int .i64 wt, .int .i64 ds])] w')) (by kernel_rfl) (HSD.out _ (CD0)) (fun hHeld => ?_)
    clear C1
    generalize w1.drew = WD0 at *
    refine tbA [0, 1, 2, 3] ?_
    refine tkA (.agg #[.int .i64 id, .slice a n c, .int .i64 lv, .string cl, .string nm, .bool st, .int .i64 wt, .int .i64 ds]) (oi := ⟨some 16, .load 44 (.tmp 4), 44, _, _, none⟩) ?_
    simp only [Act.put, pA, pB, pC]
    refine tkA (.slice (some ⟨bb, oo, none⟩) N vc) (oi := ⟨some 17, .move (.tmp 0), 23, _, _, none⟩) ?_
    simp only [Act.put, pA, pB, pC]
    refine tkA (.int .i64 (k : Int)) (oi := ⟨some 18, .move (.tmp 3), 3, _, _, none⟩) ?_
    simp only [Act.put, pA, pB, pC]
    refine tkA (.slice (some ⟨bb, oo, none⟩) k vc) (oi := ⟨some 19, .slice 23 (.tmp 17) none (some (.tmp 18)) none, 23, _, _, none⟩) ?_
    simp only [Act.put, pA, pB, pC]
    refine teA ?_
    refine tlA #[true, true, true, true, false, false] ?_
    refine trA [4] ?_
    refine AllReadyH.cons (o := ⟨some 20, .call { callee := .value (.func 33), args := #[.tmp 16, .tmp 19], argTypes := #[44, 23] }, 31, _, _, none⟩) rfl (fun K hK => ?_) AllReadyH.nil
    go_simp
    go_at_call 33
    refine (Has.call CD0 (checkway_is ⟨id, ln, lv, cl, nm, st, wt, ds⟩ (.slice a n c) _ (ws.take k) z HZ.out _ (HU.out.later GD0) ((HV.out.later CD0.low).take k (by have := HN.out; omega)))).mono ?_
    rintro e WD1 ⟨rfl, CD1⟩
    go_wp2_with fail
    clear hHeld
    refine hK.out _ _ (HSD.out _ (CD1)) (fun hHeld => ?_)
    clear hK K
    try simp only [pA, pB, pC]
    refine tlA #[true, true, true, true, true, false] ?_
    clear CD0
    refine tbA [5] ?_
    refine tkA (.int .i64 z) (oi := ⟨some 5, .assign (.tmp 20), 31, _, _, none⟩) ?_
    simp only [Act.put, pA, pB, pC]
    refine teA ?_
    refine tlA #[true, true, true, true, true, true] ?_
    refine wpAnyH_done (by kernel_rfl) ?_ _
    clear hHeld
    clear HSD
    have HD := Lib.hid CD1.low
    clear CD1
    by_cases h0 : z = 0
    ·have zz : (z == 0) = true := by simpa using h0
     have HK2 := Lib.hid (show chkTo ws (k + 1) = 0 from HX.out.trans h0)
     clear h0
     go_wp2_with fail
     go_roundw
     case rel => exact ⟨k + 1, by omega, by go_num, HK2, HD.out⟩
     case measure => simp [RowKit.intOf]; omega
    ·have zz : (z == 0) = false := by simpa using h0
     have HK2 := Lib.hid (show r = z from by rw [← HR.out, chkTo_stays (k := k + 1) (by rw [HX.out]; exact h0) (by omega), HX.out])
     clear h0
     go_wp2_with fail
     go_ret
     exact ⟨ret_i HK2.out.symm, HD.out⟩
   ·obtain rfl : k = N := by omega
    obtain rfl : r = 0 := HR.out.symm.trans HK.out
    go_wp2_with fail
    go_ret
    exact ⟨rfl, hG⟩
theorem checkn_is (v : Value) (ws : List Wy) (r : Int) (h : checkN ws = r) (w : World) (hv : RowW w v ws) :
  Calls Tryz.prog 13 #[v] w fun e w' => e = .returned (.int .i64 r) ∧ Below w.heap.size w w' := h ▸ checkn_any v ws w hv

end Go.Proofs.YtoaldbjcpfkcjaaGreat
