/- ExactSigns: the walk. -/
import Derived.Test.YtghlhipphmhjhaaSane
import Derived.Test.YtghlhipphmhjhaaRoots
import Derived.Deep.RegionHeld3
import Derived.Deep.DeepCutAuto
namespace Go.Proofs.Ytghlhipphmhjhaa
open Go.RowKit Go.Lib

/-- A list of fours of ints, each in its range. -/
def Quads (L : List Value) (n : Nat) : Prop := ∀ k, k < n → ∃ x y z u : Int, L[k * 4]? = some (.int .i64 x) ∧ L[k * 4 + 1]? = some (.int .i64 y) ∧ L[k * 4 + 2]? = some (.int .i64 z) ∧ L[k * 4 + 3]? = some (.int .i64 u) ∧
  (-9223372036854775808 ≤ x ∧ x ≤ 9223372036854775807) ∧ (-9223372036854775808 ≤ y ∧ y ≤ 9223372036854775807) ∧ (-9223372036854775808 ≤ z ∧ z ≤ 9223372036854775807) ∧ (-9223372036854775808 ≤ u ∧ u ≤ 9223372036854775807)
theorem seven {a b c d : Int} (ha : -9223372036854775808 ≤ a ∧ a ≤ 9223372036854775807) (hb : -9223372036854775808 ≤ b ∧ b ≤ 9223372036854775807) (hc : -9223372036854775808 ≤ c ∧ c ≤ 9223372036854775807) (hd : -9223372036854775808 ≤ d ∧ d ≤ 9223372036854775807) :
    Quads [.int .i64 a, .int .i64 b, .int .i64 c, .int .i64 d, .int .i64 a, .int .i64 b, .int .i64 b, .int .i64 a, .int .i64 a, .int .i64 b, .int .i64 a, .int .i64 c, .int .i64 a, .int .i64 (wrap64 (b + 1)), .int .i64 (wrap64 (a + 1)), .int .i64 b, .int .i64 a, .int .i64 a, .int .i64 b, .int .i64 b, .int .i64 a, .int .i64 (wrap64 (-b)), .int .i64 (wrap64 (-a)), .int .i64 b, .int .i64 (-9223372036854775808), .int .i64 a, .int .i64 9223372036854775807, .int .i64 b] 7 := by
  intro k hk
  match k, hk with
  | 0, _ => exact ⟨a, b, c, d, rfl, rfl, rfl, rfl, ha, hb, hc, hd⟩
  | 1, _ => exact ⟨a, b, b, a, rfl, rfl, rfl, rfl, ha, hb, hb, ha⟩
  | 2, _ => exact ⟨a, b, a, c, rfl, rfl, rfl, rfl, ha, hb, ha, hc⟩
  | 3, _ => exact ⟨a, _, _, b, rfl, rfl, rfl, rfl, ha, wrap64_bd _, wrap64_bd _, hb⟩
  | 4, _ => exact ⟨a, a, b, b, rfl, rfl, rfl, rfl, ha, ha, hb, hb⟩
  | 5, _ => exact ⟨a, _, _, b, rfl, rfl, rfl, rfl, ha, wrap64_bd _, wrap64_bd _, hb⟩
  | 6, _ => exact ⟨_, a, _, b, rfl, rfl, rfl, rfl, by omega, ha, by omega, hb⟩

/-- The list of fours, in its block; below the heap's first size nothing has turned. -/
structure QCtx (w : World) (B : Nat) (L : List Value) (w' : World) : Prop where
  l : Cells w' B L
  s : B < w'.heap.size
  low : Below w.heap.size w w'
theorem QCtx.later {w w' w'' : World} {B : Nat} {L : List Value} (h : QCtx w B L w') (hb : Below w'.heap.size w' w'') : QCtx w B L w'' :=
  ⟨h.l.later hb h.s, Nat.lt_of_lt_of_le h.s hb.size, h.low.trans (hb.mono h.low.size)⟩
/-- .. and beside it the round's own four. -/
structure XCtx (w : World) (B : Nat) (L : List Value) (X : Nat) (x y z u : Int) (w' : World) : Prop where
  q : QCtx w B L w'
  c : Cells w' X [.int .i64 x, .int .i64 y, .int .i64 z, .int .i64 u]
  s : X < w'.heap.size
theorem XCtx.all {w w' : World} {B X : Nat} {L : List Value} {x y z u : Int} (h : XCtx w B L X x y z u w') : (w'.cell? ⟨X, 0, none⟩ = some (.int .i64 x) ∧ w'.cell? ⟨X, 1, none⟩ = some (.int .i64 y) ∧ w'.cell? ⟨X, 2, none⟩ = some (.int .i64 z) ∧ w'.cell? ⟨X, 3, none⟩ = some (.int .i64 u)) ∧ XCtx w B L X x y z u w' :=
  ⟨⟨(h.c.get 0 rfl).1, (h.c.get 1 rfl).1, (h.c.get 2 rfl).1, (h.c.get 3 rfl).1⟩, h⟩
theorem XCtx.later {w w' w'' : World} {B X : Nat} {L : List Value} {x y z u : Int} (h : XCtx w B L X x y z u w') (hb : Below w'.heap.size w' w'') : XCtx w B L X x y z u w'' :=
  ⟨h.q.later hb, h.c.later hb h.s, Nat.lt_of_lt_of_le h.s hb.size⟩

/-- .. and the round's two ratios. -/
structure PCtx (w : World) (B : Nat) (L : List Value) (P Q : Nat) (x y z u : Int) (w' : World) : Prop where
  q : QCtx w B L w'
  l : Cells w' P [.int .i64 x, .int .i64 y]
  r : Cells w' Q [.int .i64 z, .int .i64 u]
  s : P < w'.heap.size
  t : Q < w'.heap.size
theorem PCtx.later {w w' w'' : World} {B P Q : Nat} {L : List Value} {x y z u : Int} (h : PCtx w B L P Q x y z u w') (hb : Below w'.heap.size w' w'') : PCtx w B L P Q x y z u w'' :=
  ⟨h.q.later hb, h.l.later hb h.s, h.r.later hb h.t, Nat.lt_of_lt_of_le h.s hb.size, Nat.lt_of_lt_of_le h.t hb.size⟩
theorem PCtx.all {w w' : World} {B P Q : Nat} {L : List Value} {x y z u : Int} (h : PCtx w B L P Q x y z u w') : (w'.cell? ⟨P, 0, none⟩ = some (.int .i64 x) ∧ w'.cell? ⟨P, 1, none⟩ = some (.int .i64 y) ∧ w'.cell? ⟨Q, 0, none⟩ = some (.int .i64 z) ∧ w'.cell? ⟨Q, 1, none⟩ = some (.int .i64 u)) ∧ PCtx w B L P Q x y z u w' :=
  ⟨⟨(h.l.get 0 rfl).1, (h.l.get 1 rfl).1, (h.r.get 0 rfl).1, (h.r.get 1 rfl).1⟩, h⟩
theorem PCtx.drew {w w' : World} {B P Q : Nat} {L : List Value} {x y z u : Int} (h : PCtx w B L P Q x y z u w') : PCtx w B L P Q x y z u w'.drew := h.later ((Below.refl _ _).drew)
theorem QCtx.one {w W : World} {B : Nat} {L : List Value} {x y z u : Int} (h : QCtx w B L W) : PCtx w B L W.heap.size (W.heap.size + 1) x y z u ((W.alloc (.cells #[.int .i64 x, .int .i64 y] 27)).alloc (.cells #[.int .i64 z, .int .i64 u] 27)).drew := by
  have h1 := Cells.made W [.int .i64 x, .int .i64 y] 27
  have h2 := Cells.made (W.alloc (.cells #[.int .i64 x, .int .i64 y] 27)) [.int .i64 z, .int .i64 u] 27
  rw [size_alloc] at h2
  exact ⟨h.later (((Below.refl _ _).alloc (Nat.le_refl _) _).alloc (by simp) _).drew, (h1.alloc (by simp) _).drew, h2.drew, by simp; omega, by simp⟩
theorem QCtx.two {w W : World} {B : Nat} {L : List Value} {x y z u : Int} (h : QCtx w B L W) : PCtx w B L (W.heap.size + 1) W.heap.size x y z u ((W.alloc (.cells #[.int .i64 z, .int .i64 u] 27)).alloc (.cells #[.int .i64 x, .int .i64 y] 27)).drew := by
  have h1 := Cells.made W [.int .i64 z, .int .i64 u] 27
  have h2 := Cells.made (W.alloc (.cells #[.int .i64 z, .int .i64 u] 27)) [.int .i64 x, .int .i64 y] 27
  rw [size_alloc] at h2
  exact ⟨h.later (((Below.refl _ _).alloc (Nat.le_refl _) _).alloc (by simp) _).drew, h2.drew, (h1.alloc (by simp) _).drew, by simp, by simp; omega⟩
theorem XCtx.drew {w w' : World} {B X : Nat} {L : List Value} {x y z u : Int} (h : XCtx w B L X x y z u w') : XCtx w B L X x y z u w'.drew := h.later ((Below.refl _ _).drew)

set_option maxRecDepth 100000 in
set_option maxHeartbeats 2000000 in
theorem signs_walk (a b c d : Int) (w : World) (ha : -9223372036854775808 ≤ a ∧ a ≤ 9223372036854775807) (hb : -9223372036854775808 ≤ b ∧ b ≤ 9223372036854775807) (hc : -9223372036854775808 ≤ c ∧ c ≤ 9223372036854775807) (hd : -9223372036854775808 ≤ d ∧ d ≤ 9223372036854775807) :
    Calls Try.prog 3 #[.agg #[.int .i64 a, .int .i64 b, .int .i64 c, .int .i64 d]] w fun e w' => e = .returned (.bool true) ∧ Below w.heap.size w w' := by
  go_enter Try.func3, Try.ntmps3
  go_wp2_with fail
  refine (sane _).mono ?_
  rintro en w1 ⟨rfl, hb1⟩
  have t1 := (Cells.made w [.int .i64 a, .int .i64 b, .int .i64 c, .int .i64 d] 22).later hb1 (by simp)
  have hB1 : Below w.heap.size w w1 := ((Below.refl _ _).alloc (Nat.le_refl _) _).trans (hb1.mono (by simp))
  clear hb1
  have c1 := (t1.get 0 rfl).1
  have c2 := (t1.get 1 rfl).1
  have c3 := (t1.get 2 rfl).1
  have c4 := (t1.get 3 rfl).1
  go_wp2_with fail
  go_quiet (fail)
  go_wp2_with fail
  have hB2 := below_drewN hB1 nq
  clear c1 c2 c3 c4 t1
  obtain ⟨L, hL⟩ : ∃ L : List Value, L = [.int .i64 a, .int .i64 b, .int .i64 c, .int .i64 d, .int .i64 a, .int .i64 b, .int .i64 b, .int .i64 a, .int .i64 a, .int .i64 b, .int .i64 a, .int .i64 c, .int .i64 a, .int .i64 (wrap64 (b + 1)), .int .i64 (wrap64 (a + 1)), .int .i64 b, .int .i64 a, .int .i64 a, .int .i64 b, .int .i64 b, .int .i64 a, .int .i64 (wrap64 (-b)), .int .i64 (wrap64 (-a)), .int .i64 b, .int .i64 (-9223372036854775808), .int .i64 a, .int .i64 9223372036854775807, .int .i64 b] := ⟨_, rfl⟩
  have hP : Quads L 7 := hL ▸ seven ha hb hc hd
  have t : Cells ((w1.drewN nq).alloc (.cells L.toArray 22)) w1.heap.size L := Cells.made (w1.drewN nq) L 22
  have hB := hB2.alloc hB2.size (.cells L.toArray 22)
  have hs : w1.heap.size < ((w1.drewN nq).alloc (.cells L.toArray 22)).heap.size := by simp
  have hW : (w1.drewN nq).alloc (.cells L.toArray 22) = (w1.drewN nq).alloc (.cells #[.int .i64 a, .int .i64 b, .int .i64 c, .int .i64 d, .int .i64 a, .int .i64 b, .int .i64 b, .int .i64 a, .int .i64 a, .int .i64 b, .int .i64 a, .int .i64 c, .int .i64 a, .int .i64 (wrap64 (b + 1)), .int .i64 (wrap64 (a + 1)), .int .i64 b, .int .i64 a, .int .i64 a, .int .i64 b, .int .i64 b, .int .i64 a, .int .i64 (wrap64 (-b)), .int .i64 (wrap64 (-a)), .int .i64 b, .int .i64 (-9223372036854775808), .int .i64 a, .int .i64 9223372036854775807, .int .i64 b] 22) := by rw [hL]
  rw [← hW]
  have hs0 := hB1.size
  clear hL hW hB1 hB2
  generalize (w1.drewN nq).alloc (.cells L.toArray 22) = w2 at *
  generalize w1.heap.size = B at *
  have C : QCtx w B L w2 := ⟨t, hs, hB⟩
  clear t hs hB
  go_loopw [60] (fun v wr => ∃ k : Nat, k ≤ 7 ∧ v = .int .i64 (k : Int) ∧ QCtx w B L wr) (fun v _ => 7 - (intOf v).toNat)
  case atStart => exact ⟨0, by omega, rfl, C⟩
  case round =>
    clear C
    obtain ⟨k, hk, rfl, C⟩ := hrel
    by_cases hlt : k < 7
    · obtain ⟨x, y, z, u, l1, l2, l3, l4, bx, bY, bz, bu⟩ := hP k hlt
      have c1 := (C.l.get _ l1).1
      have c2 := (C.l.get _ l2).1
      have c3 := (C.l.get _ l3).1
      have c4 := (C.l.get _ l4).1
      clear l1 l2 l3 l4
      go_upto_region 6 with fail
      have hX : QCtx w B L (wr.alloc (.cells #[.int .i64 x, .int .i64 y, .int .i64 z, .int .i64 u] 22)) := C.later ((Below.refl _ _).alloc (Nat.le_refl _) _)
      have XC : XCtx w B L wr.heap.size x y z u (wr.alloc (.cells #[.int .i64 x, .int .i64 y, .int .i64 z, .int .i64 u] 22)) := ⟨hX, Cells.made wr [.int .i64 x, .int .i64 y, .int .i64 z, .int .i64 u] 22, by simp⟩
      clear c1 c2 c3 c4 hX
      generalize wr.alloc (.cells #[.int .i64 x, .int .i64 y, .int .i64 z, .int .i64 u] 22) = w3 at *
      generalize wr.heap.size = X at *
      obtain ⟨ans, hans⟩ : ∃ ans, ans = (x * y - z * u).sign := ⟨_, rfl⟩
      have K10 := Lib.hid (fun (W : World) (h : XCtx w B L X x y z u W) => show Calls Try.prog 10 #[.int .i64 x, .int .i64 y, .int .i64 z, .int .i64 u] W (fun e w' => e = .returned (.int .i64 ans) ∧ XCtx w B L X x y z u w') from
        (sign2_any x y z u W bx bY bz bu).mono fun _ _ ⟨he, hb⟩ => ⟨by rw [hans]; exact he, h.later hb⟩)
      have K11 := Lib.hid (fun (W : World) (h : XCtx w B L X x y z u W) => show Calls Try.prog 11 #[.int .i64 x, .int .i64 y, .int .i64 z, .int .i64 u] W (fun e w' => e = .returned (.int .i64 ans) ∧ XCtx w B L X x y z u w') from
        (rsign2_any x y z u W bx bY bz bu).mono fun _ _ ⟨he, hb⟩ => ⟨by rw [hans]; exact he, h.later hb⟩)
      clear hans C
      go_region_held3 (fun w' => (w'.cell? ⟨X, 0, none⟩ = some (.int .i64 x) ∧ w'.cell? ⟨X, 1, none⟩ = some (.int .i64 y) ∧ w'.cell? ⟨X, 2, none⟩ = some (.int .i64 z) ∧ w'.cell? ⟨X, 3, none⟩ = some (.int .i64 u)) ∧ XCtx w B L X x y z u w')
        (first | exact XC.drew.all | exact XCtx.all (by assumption))
        (first
          | (go_at_call 10; refine (K10.out _ ?_).mono ?_; (first | assumption | exact And.right (by assumption)); rintro e w' ⟨rfl, hC⟩)
          | (go_at_call 11; refine (K11.out _ ?_).mono ?_; (first | assumption | exact And.right (by assumption)); rintro e w' ⟨rfl, hC⟩))
      go_upto_region 8 with fail
      have XC8 := hC
      obtain ⟨⟨c1, c2, c3, c4⟩, -⟩ := XC8.all
      have hs8 := XC8.s
      clear XC K10 K11
      go_cut [10, 11] (fun p q wx => ∃ P Q : Nat, p = .pointer (some ⟨P, 0, none⟩) ∧ q = .pointer (some ⟨Q, 0, none⟩) ∧ PCtx w B L P Q x y z u wx)
      case first =>
        go_region
        · go_wp2_with fail
          go_meet
          exact ⟨_, _, rfl, rfl, XC8.q.one⟩
        · go_wp2_with fail
          go_meet
          exact ⟨_, _, rfl, rfl, XC8.q.two⟩
      case rest =>
        obtain ⟨P, Q, rfl, rfl, PC⟩ := hcut
        obtain ⟨⟨c1, c2, c3, c4⟩, -⟩ := PC.all
        obtain ⟨ans2, hans2⟩ : ∃ r, r = cmpOf x y z u := ⟨_, rfl⟩
        have K12 := Lib.hid (fun (W : World) (h : PCtx w B L P Q x y z u W) => show Calls Try.prog 12 #[.agg #[.int .i64 x, .int .i64 y], .agg #[.int .i64 z, .int .i64 u]] W (fun e w' => e = .returned (.int .i64 ans2) ∧ PCtx w B L P Q x y z u w') from
          (cmp_any x y z u W bx bY bz bu).mono fun _ _ ⟨he, hb⟩ => ⟨by rw [hans2]; exact he, h.later hb⟩)
        have K13 := Lib.hid (fun (W : World) (h : PCtx w B L P Q x y z u W) => show Calls Try.prog 13 #[.agg #[.int .i64 x, .int .i64 y], .agg #[.int .i64 z, .int .i64 u]] W (fun e w' => e = .returned (.int .i64 ans2) ∧ PCtx w B L P Q x y z u w') from
          (rcmp_any x y z u W bx bY bz bu).mono fun _ _ ⟨he, hb⟩ => ⟨by rw [hans2]; exact he, h.later hb⟩)
        clear hans2 XC8 hC
        go_wp2_with fail
        go_region_held3 (fun w' => (w'.cell? ⟨P, 0, none⟩ = some (.int .i64 x) ∧ w'.cell? ⟨P, 1, none⟩ = some (.int .i64 y) ∧ w'.cell? ⟨Q, 0, none⟩ = some (.int .i64 z) ∧ w'.cell? ⟨Q, 1, none⟩ = some (.int .i64 u)) ∧ PCtx w B L P Q x y z u w')
          (first | exact PC.drew.all | exact PCtx.all (by assumption))
          (first
            | (go_at_call 12; refine (K12.out _ ?_).mono ?_; (first | assumption | exact And.right (by assumption)); rintro e w' ⟨rfl, hC⟩)
            | (go_at_call 13; refine (K13.out _ ?_).mono ?_; (first | assumption | exact And.right (by assumption)); rintro e w' ⟨rfl, hC⟩))
        go_wp2_with fail
        go_round
        case rel => exact ⟨k + 1, by omega, by go_num, PCtx.q (by assumption)⟩
        case measure => simp [intOf]; omega
    · obtain rfl : k = 7 := by omega
      go_wp2_with fail
      go_ret
      exact ⟨rfl, C.low⟩

end Go.Proofs.Ytghlhipphmhjhaa
