/- ExactOrder: the walk. -/
import Derived.Test.YtghlhipphmhjhaaSane
import Derived.Test.YtghlhipphmhjhaaRoots
import Derived.Test.YtghlhipphmhjhaaOrdMath
import Derived.Test.YtghlhipphmhjhaaSmall
import Derived.Deep.RegionHeld3
import Derived.Deep.DeepCutAuto
import Derived.Deep.CutBlock
namespace Go.Proofs.Ytghlhipphmhjhaa
open Go.RowKit Go.Lib

/-- A right ratio. -/
def Rt (n d : Int) : Prop := (-9223372036854775808 ≤ n ∧ n ≤ 9223372036854775807) ∧ 1 ≤ d ∧ d ≤ 4611686018427387904

/-- The three ratios, in the block of the argument's copy. -/
structure OCtx (w : World) (A : Nat) (xs : List Value) (w' : World) : Prop where
  c : Cells w' A xs
  s : A < w'.heap.size
  low : Below w.heap.size w w'
theorem OCtx.later {w w' w'' : World} {A : Nat} {xs : List Value} (h : OCtx w A xs w') (hb : Below w'.heap.size w' w'') : OCtx w A xs w'' :=
  ⟨h.c.later hb h.s, Nat.lt_of_lt_of_le h.s hb.size, h.low.trans (hb.mono h.low.size)⟩
theorem OCtx.drew {w w' : World} {A : Nat} {xs : List Value} (h : OCtx w A xs w') : OCtx w A xs w'.drew := h.later ((Below.refl _ _).drew)
theorem OCtx.all {w w' : World} {A : Nat} {a b c d e f : Value} (h : OCtx w A [a, b, c, d, e, f] w') : (w'.cell? ⟨A, 0, none⟩ = some a ∧ w'.cell? ⟨A, 1, none⟩ = some b ∧ w'.cell? ⟨A, 2, none⟩ = some c ∧ w'.cell? ⟨A, 3, none⟩ = some d ∧ w'.cell? ⟨A, 4, none⟩ = some e ∧ w'.cell? ⟨A, 5, none⟩ = some f) ∧ OCtx w A [a, b, c, d, e, f] w' :=
  ⟨⟨(h.c.get 0 rfl).1, (h.c.get 1 rfl).1, (h.c.get 2 rfl).1, (h.c.get 3 rfl).1, (h.c.get 4 rfl).1, (h.c.get 5 rfl).1⟩, h⟩

set_option maxRecDepth 100000 in
set_option maxHeartbeats 1000000 in
theorem order_walk (n0 d0 n1 d1 n2 d2 n m : Int) (w : World) (h0 : -9223372036854775808 ≤ n0 ∧ n0 ≤ 9223372036854775807) (_h0' : -9223372036854775808 ≤ d0 ∧ d0 ≤ 9223372036854775807) (h1 : -9223372036854775808 ≤ n1 ∧ n1 ≤ 9223372036854775807) (_h1' : -9223372036854775808 ≤ d1 ∧ d1 ≤ 9223372036854775807) (h2 : -9223372036854775808 ≤ n2 ∧ n2 ≤ 9223372036854775807) (_h2' : -9223372036854775808 ≤ d2 ∧ d2 ≤ 9223372036854775807) (hn : -9223372036854775808 ≤ n ∧ n ≤ 9223372036854775807) (hm : -9223372036854775808 ≤ m ∧ m ≤ 9223372036854775807) :
    Calls Try.prog 5 #[.agg #[.int .i64 n0, .int .i64 d0, .int .i64 n1, .int .i64 d1, .int .i64 n2, .int .i64 d2], .int .i64 n, .int .i64 m] w fun e w' => e = .returned (.bool true) ∧ Below w.heap.size w w' := by
  go_enter Try.func5, Try.ntmps5
  go_wp2_with fail
  refine (sane _).mono ?_
  rintro en w1 ⟨rfl, hb1⟩
  have t1 := (Cells.made w [.int .i64 n0, .int .i64 d0, .int .i64 n1, .int .i64 d1, .int .i64 n2, .int .i64 d2] 31).later hb1 (by simp)
  have hB1 : Below w.heap.size w w1 := ((Below.refl _ _).alloc (Nat.le_refl _) _).trans (hb1.mono (by simp))
  have hs1 : w.heap.size < w1.heap.size := by have := hb1.size; simp at this; omega
  clear hb1
  go_wp2_with fail
  obtain ⟨c1, f1⟩ := t1.get 1 rfl
  obtain ⟨c3, f3⟩ := t1.get 3 rfl
  obtain ⟨c5, f5⟩ := t1.get 5 rfl
  obtain ⟨D0, e0⟩ : ∃ D, D = d0 % 4611686018427387904 + 1 := ⟨_, rfl⟩
  obtain ⟨D1, e1⟩ : ∃ D, D = d1 % 4611686018427387904 + 1 := ⟨_, rfl⟩
  obtain ⟨D2, e2⟩ : ∃ D, D = d2 % 4611686018427387904 + 1 := ⟨_, rfl⟩
  have R0 : Rt n0 D0 := ⟨h0, by omega⟩
  have R1 : Rt n1 D1 := ⟨h1, by omega⟩
  have R2 : Rt n2 D2 := ⟨h2, by omega⟩
  have E0 := Lib.hid e0
  have E1 := Lib.hid e1
  have E2 := Lib.hid e2
  clear e0 e1 e2
  refine wp_loop_rounds 4 ?_
  rw [rounds_succ]
  go_wp2_with fail
  refine (mod_any d0 _ _ (by omega) (by omega)).mono ?_
  rintro en w2 ⟨rfl, rfl⟩
  go_wp2_with fail
  rw [rounds_succ]
  go_wp2_with fail
  refine (mod_any d1 _ _ (by omega) (by omega)).mono ?_
  rintro en w2 ⟨rfl, rfl⟩
  go_wp2_with fail
  rw [rounds_succ]
  go_wp2_with fail
  refine (mod_any d2 _ _ (by omega) (by omega)).mono ?_
  rintro en w2 ⟨rfl, rfl⟩
  go_wp2_with fail
  rw [rounds_succ]
  go_wp2_with fail
  rw [← E0.out, ← E1.out, ← E2.out]
  have O : OCtx w w.heap.size [.int .i64 n0, .int .i64 D0, .int .i64 n1, .int .i64 D1, .int .i64 n2, .int .i64 D2] (((w1.setCell ⟨w.heap.size, 1, none⟩ (.int .i64 D0)).setCell ⟨w.heap.size, 3, none⟩ (.int .i64 D1)).setCell ⟨w.heap.size, 5, none⟩ (.int .i64 D2)) :=
    ⟨((t1.set 1 (by simp) (.int .i64 D0)).set 3 (by simp) (.int .i64 D1)).set 5 (by simp) (.int .i64 D2), by simp; exact hs1,
      ((hB1.setCell (p := ⟨w.heap.size, 1, none⟩) (by simp) (.int .i64 D0)).setCell (p := ⟨w.heap.size, 3, none⟩) (by simp) (.int .i64 D1)).setCell (p := ⟨w.heap.size, 5, none⟩) (by simp) (.int .i64 D2)⟩
  generalize ((w1.setCell ⟨w.heap.size, 1, none⟩ (.int .i64 D0)).setCell ⟨w.heap.size, 3, none⟩ (.int .i64 D1)).setCell ⟨w.heap.size, 5, none⟩ (.int .i64 D2) = w2 at *
  clear c1 c3 c5 f1 f3 f5 t1 hB1 hs1 E0 E1 E2
  have K := Lib.hid (fun (W : World) (p d q e r : Int) (hr : cmpOf p d q e = r) (h1 : Rt p d) (h2 : Rt q e) (h : OCtx w w.heap.size [.int .i64 n0, .int .i64 D0, .int .i64 n1, .int .i64 D1, .int .i64 n2, .int .i64 D2] W) => show Calls Try.prog 12 #[.agg #[.int .i64 p, .int .i64 d], .agg #[.int .i64 q, .int .i64 e]] W (fun en w' => en = .returned (.int .i64 r) ∧ OCtx w w.heap.size [.int .i64 n0, .int .i64 D0, .int .i64 n1, .int .i64 D1, .int .i64 n2, .int .i64 D2] w') from
    (cmp_is p d q e r hr W h1.1 (by have := h1.2; omega) h2.1 (by have := h2.2; omega)).mono fun _ _ ⟨he, hb⟩ => ⟨he, h.later hb⟩)
  go_region_held3 (fun w' => (w'.cell? ⟨w.heap.size, 0, none⟩ = some (.int .i64 n0) ∧ w'.cell? ⟨w.heap.size, 1, none⟩ = some (.int .i64 D0) ∧ w'.cell? ⟨w.heap.size, 2, none⟩ = some (.int .i64 n1) ∧ w'.cell? ⟨w.heap.size, 3, none⟩ = some (.int .i64 D1) ∧ w'.cell? ⟨w.heap.size, 4, none⟩ = some (.int .i64 n2) ∧ w'.cell? ⟨w.heap.size, 5, none⟩ = some (.int .i64 D2)) ∧ OCtx w w.heap.size [.int .i64 n0, .int .i64 D0, .int .i64 n1, .int .i64 D1, .int .i64 n2, .int .i64 D2] w')
    (first | exact O.drew.all | exact OCtx.all (by assumption))
    (first
      | (go_at_call 12; refine (K.out _ _ _ _ _ _ rfl (by assumption) (by assumption) ?_).mono ?_; (first | assumption | exact And.right (by assumption)); rintro e w' ⟨rfl, hC⟩))
  go_upto_region 8 with fail
  have C8 := hC
  obtain ⟨⟨c0, c1, c2, c3, -, -⟩, -⟩ := C8.all
  have T := cmp_three (n0 := n0) (n1 := n1) (n2 := n2) R0.2.1 R1.2.1 R2.2.1 _ _ _ rfl rfl rfl
  have F := cmp_flip (n := n0) (m := n1) R0.2.1 R1.2.1
  generalize cmpOf n0 D0 n1 D1 = a at *
  generalize cmpOf n1 D1 n2 D2 = b at *
  generalize cmpOf n0 D0 n2 D2 = c at *
  obtain ⟨f, hf⟩ : ∃ f, cmpOf n1 D1 n0 D0 = f := ⟨_, rfl⟩
  rw [hf] at F
  have FF := Lib.hid hf
  clear hf hC
  go_cut [90] (fun v wx => v = .bool false ∧ OCtx w w.heap.size [.int .i64 n0, .int .i64 D0, .int .i64 n1, .int .i64 D1, .int .i64 n2, .int .i64 D2] wx)
  case first =>
    rcases T with ⟨rfl, rfl, rfl⟩ | ⟨rfl, rfl, rfl⟩ | ⟨rfl, rfl, rfl⟩ | ⟨rfl, rfl, rfl⟩ | ⟨rfl, rfl⟩ | ⟨rfl, rfl⟩ | ⟨rfl, rfl, rfl⟩ | ⟨rfl, rfl⟩ | ⟨rfl, rfl⟩
    all_goals
      try simp only [Int.neg_zero, Int.neg_neg] at F
      subst F
      go_wp2_with fail
      refine (K.out _ _ _ _ _ _ FF.out R1 R0 C8).mono ?_
      rintro en w9 ⟨rfl, C9⟩
      obtain ⟨⟨c0, c1, -, -, -, -⟩, -⟩ := C9.all
      go_wp2_with fail
      refine (K.out _ _ _ _ _ 0 (cmp_self R0.2.1) R0 R0 C9).mono ?_
      rintro en w10 ⟨rfl, C10⟩
      go_wp2_with fail
      go_meet
      exact ⟨rfl, C10⟩
  case rest =>
    obtain ⟨rfl, C9⟩ := hcut
    clear T F FF c0 c1 c2 c3 C8
    go_upto_block 2 with fail
    have hS := sign_bd (n - m)
    go_cut [12] (fun v wx => v = .int .i64 (n - m).sign ∧ OCtx w w.heap.size [.int .i64 n0, .int .i64 D0, .int .i64 n1, .int .i64 D1, .int .i64 n2, .int .i64 D2] wx)
    case first =>
      rcases sign_lt n m with ⟨q1, q2⟩ | ⟨q1, q2⟩ | ⟨q1, q2⟩
      all_goals
        have HQ := Lib.hid q2
        clear q2 hS
        go_wp2_with fail
        go_meet
        exact ⟨by rw [HQ.out], C9⟩
    case rest =>
      obtain ⟨rfl, C10⟩ := hcut
      clear C9
      obtain ⟨S, hSd⟩ : ∃ S, S = (n - m).sign := ⟨_, rfl⟩
      have HS := Lib.hid hSd
      rw [← hSd] at hS
      rw [← hSd]
      clear hSd
      obtain ⟨⟨-, c1, -, -, -, -⟩, -⟩ := C10.all
      have r0 := R0.2
      go_wp2_with fail
      refine (cmp_is n 1 m 1 S (by rw [HS.out, cmp_whole]) _ hn (by omega) hm (by omega)).mono ?_
      rintro en w11 ⟨rfl, hb11⟩
      have C11 := C10.later hb11
      obtain ⟨⟨c0, c1, -, -, -, -⟩, -⟩ := C11.all
      go_wp2_with fail
      refine (cmp_is n (-D0) n0 D0 0 (cmp_not (by omega)) _ hn (by omega) h0 (by omega)).mono ?_
      rintro en w12 ⟨rfl, hb12⟩
      have C12 := C11.later hb12
      go_wp2_with fail
      go_ret
      exact ⟨rfl, C12.low⟩

end Go.Proofs.Ytghlhipphmhjhaa
