/- line: whether a point is near to a segment. The reference: whether a point is near to a segment. -/
import Derived.Test.YtkejilomempogaaAny
namespace Go.Proofs.Ytkejilomempogaa
open Go.RowKit Go.Lib

theorem w64 {x : Int} (h : -9223372036854775808 ≤ x ∧ x ≤ 9223372036854775807) : wrap64 x = x := IntWalk.wrap64_in _ h
theorem mul_le64 {a b A B : Int} (ha : -A ≤ a ∧ a ≤ A) (hb : -B ≤ b ∧ b ≤ B) : -(A * B) ≤ a * b ∧ a * b ≤ A * B := by
  have h1 : (A - a) * (B - b) ≥ 0 := Int.mul_nonneg (by omega) (by omega)
  have h2 : (A + a) * (B + b) ≥ 0 := Int.mul_nonneg (by omega) (by omega)
  have h3 : (A - a) * (B + b) ≥ 0 := Int.mul_nonneg (by omega) (by omega)
  have h4 : (A + a) * (B - b) ≥ 0 := Int.mul_nonneg (by omega) (by omega)
  constructor <;> grind
/-- Numbers that are small enough for products. -/
def S16 (x : Int) : Prop := -65536 ≤ x ∧ x ≤ 65536
theorem S16.mul {a b : Int} (ha : S16 a) (hb : S16 b) : -4294967296 ≤ a * b ∧ a * b ≤ 4294967296 := mul_le64 (A := 65536) (B := 65536) ha hb
theorem dot_b {a b c d : Int} (ha : S16 a) (hb : S16 b) (hc : S16 c) (hd : S16 d) (s : Int) (hs : a * c + b * d = s) (w : World) :
    Calls Try.prog 42 #[.agg #[.int .i64 a, .int .i64 b], .agg #[.int .i64 c, .int .i64 d]] w fun e w' => e = .returned (.int .i64 s) ∧ Below w.heap.size w w' := by
  have h1 := ha.mul hc
  have h2 := hb.mul hd
  have := dot_any a b c d w
  rw [w64 (x := a * c) (by omega), w64 (x := b * d) (by omega), w64 (by omega), hs] at this
  exact this
theorem rdot_b {a b c d : Int} (ha : S16 a) (hb : S16 b) (hc : S16 c) (hd : S16 d) (s : Int) (hs : a * c + b * d = s) (w : World) :
    Calls Try.prog 45 #[.agg #[.int .i64 a, .int .i64 b], .agg #[.int .i64 c, .int .i64 d]] w fun e w' => e = .returned (.int .i64 s) ∧ Below w.heap.size w w' := by
  have h1 := ha.mul hc
  have h2 := hb.mul hd
  have := rdot_any a b c d w
  rw [w64 (x := a * c) (by omega), w64 (x := b * d) (by omega), w64 (by omega), hs] at this
  exact this
theorem cross_b {a b c d : Int} (ha : S16 a) (hb : S16 b) (hc : S16 c) (hd : S16 d) (s : Int) (hs : a * d - b * c = s) (w : World) :
    Calls Try.prog 76 #[.agg #[.int .i64 a, .int .i64 b], .agg #[.int .i64 c, .int .i64 d]] w fun e w' => e = .returned (.int .i64 s) ∧ Below w.heap.size w w' := by
  have h1 := ha.mul hd
  have h2 := hb.mul hc
  have := cross_any a b c d w
  rw [w64 (x := a * d) (by omega), w64 (x := b * c) (by omega), w64 (by omega), hs] at this
  exact this
theorem rcross_b {a b c d : Int} (ha : S16 a) (hb : S16 b) (hc : S16 c) (hd : S16 d) (s : Int) (hs : a * d - b * c = s) (w : World) :
    Calls Try.prog 79 #[.agg #[.int .i64 a, .int .i64 b], .agg #[.int .i64 c, .int .i64 d]] w fun e w' => e = .returned (.int .i64 s) ∧ Below w.heap.size w w' := by
  have h1 := ha.mul hd
  have h2 := hb.mul hc
  have := rcross_any a b c d w
  rw [w64 (x := a * d) (by omega), w64 (x := b * c) (by omega), w64 (by omega), hs] at this
  exact this
theorem sub_b {a b c d : Int} (ha : S16 a) (hb : S16 b) (hc : S16 c) (hd : S16 d) (s t : Int) (hs : a - c = s) (ht : b - d = t) (w : World) :
    Calls Try.prog 40 #[.agg #[.int .i64 a, .int .i64 b], .agg #[.int .i64 c, .int .i64 d]] w fun e w' => e = .returned (.agg #[.int .i64 s, .int .i64 t]) ∧ Below w.heap.size w w' := by
  have := sub_any a b c d w
  unfold S16 at *
  rw [w64 (by omega), w64 (by omega), hs, ht] at this
  exact this
theorem rsub_b {a b c d : Int} (ha : S16 a) (hb : S16 b) (hc : S16 c) (hd : S16 d) (s t : Int) (hs : a - c = s) (ht : b - d = t) (w : World) :
    Calls Try.prog 43 #[.agg #[.int .i64 a, .int .i64 b], .agg #[.int .i64 c, .int .i64 d]] w fun e w' => e = .returned (.agg #[.int .i64 s, .int .i64 t]) ∧ Below w.heap.size w w' := by
  have := rsub_any a b c d w
  unfold S16 at *
  rw [w64 (by omega), w64 (by omega), hs, ht] at this
  exact this
theorem sign2_is (a b c d s : Int) (h : (a * b - c * d).sign = s) (w : World) (ha : I64 a) (hb : I64 b) (hc : I64 c) (hd : I64 d) :
    Calls Try.prog 77 #[.int .i64 a, .int .i64 b, .int .i64 c, .int .i64 d] w fun e w' => e = .returned (.int .i64 s) ∧ Below w.heap.size w w' := h ▸ sign2_any a b c d w ha hb hc hd
theorem rsign2_is (a b c d s : Int) (h : (a * b - c * d).sign = s) (w : World) (ha : I64 a) (hb : I64 b) (hc : I64 c) (hd : I64 d) :
    Calls Try.prog 80 #[.int .i64 a, .int .i64 b, .int .i64 c, .int .i64 d] w fun e w' => e = .returned (.int .i64 s) ∧ Below w.heap.size w w' := h ▸ rsign2_any a b c d w ha hb hc hd

/-- Whether 4 times the square of the distance from a segment is at most n. -/
def segW (a0 a1 b0 b1 p0 p1 n : Int) : Bool :=
  if (b0 - a0) * (p0 - a0) + (b1 - a1) * (p1 - a1) ≤ 0 then decide (4 * ((p0 - a0) * (p0 - a0) + (p1 - a1) * (p1 - a1)) ≤ n)
  else if 0 ≤ (b0 - a0) * (p0 - b0) + (b1 - a1) * (p1 - b1) then decide (4 * ((p0 - b0) * (p0 - b0) + (p1 - b1) * (p1 - b1)) ≤ n)
  else decide (((2 * ((b0 - a0) * (p1 - a1) - (b1 - a1) * (p0 - a0))) * (2 * ((b0 - a0) * (p1 - a1) - (b1 - a1) * (p0 - a0))) - n * ((b0 - a0) * (b0 - a0) + (b1 - a1) * (b1 - a1))).sign ≤ 0)
theorem rt16 {x y : Int} (h : inl 16384 x y = true) : (-16384 ≤ x ∧ x ≤ 16384) ∧ (-16384 ≤ y ∧ y ≤ 16384) := by have := inl_iff.1 h; omega
theorem has42 {w0 w : World} {bs : List (Nat × List Value)} {A B : Nat} {a b c d e f : Value} (h : Has w0 ((A, [a, b, c, d]) :: (B, [e, f]) :: bs) w) :
    w.cell? ⟨A, 0, none⟩ = some a ∧ w.cell? ⟨A, 1, none⟩ = some b ∧ w.cell? ⟨A, 2, none⟩ = some c ∧ w.cell? ⟨A, 3, none⟩ = some d ∧ w.cell? ⟨B, 0, none⟩ = some e ∧ w.cell? ⟨B, 1, none⟩ = some f :=
  ⟨h.fact (.head _) (i := 0) rfl, h.fact (.head _) (i := 1) rfl, h.fact (.head _) (i := 2) rfl, h.fact (.head _) (i := 3) rfl, h.tail.fact (.head _) (i := 0) rfl, h.tail.fact (.head _) (i := 1) rfl⟩

set_option linter.unusedSimpArgs false in
set_option maxRecDepth 100000 in
set_option maxHeartbeats 64000000 in
theorem segw_any (a0 a1 b0 b1 p0 p1 n : Int) (w : World) (ha : inl 16384 a0 a1 = true) (hb : inl 16384 b0 b1 = true) (hp : inl 16384 p0 p1 = true) (hn : I64 n) :
    Calls Try.prog 49 #[.agg #[.int .i64 a0, .int .i64 a1, .int .i64 b0, .int .i64 b1], .agg #[.int .i64 p0, .int .i64 p1], .int .i64 n] w fun e w' => e = .returned (.bool (segW a0 a1 b0 b1 p0 p1 n)) ∧ Below w.heap.size w w' := by
  have A := rt16 ha
  have B := rt16 hb
  have P := rt16 hp
  clear ha hb hp
  have sa0 : S16 a0 := ⟨by omega, by omega⟩
  have sa1 : S16 a1 := ⟨by omega, by omega⟩
  have sb0 : S16 b0 := ⟨by omega, by omega⟩
  have sb1 : S16 b1 := ⟨by omega, by omega⟩
  have sp0 : S16 p0 := ⟨by omega, by omega⟩
  have sp1 : S16 p1 := ⟨by omega, by omega⟩
  obtain ⟨r, hr⟩ : ∃ v, segW a0 a1 b0 b1 p0 p1 n = v := ⟨_, rfl⟩
  rw [hr]
  unfold segW at hr
  obtain ⟨u0, hu0⟩ : ∃ v, b0 - a0 = v := ⟨_, rfl⟩
  have su0 : S16 u0 := ⟨by omega, by omega⟩
  obtain ⟨u1, hu1⟩ : ∃ v, b1 - a1 = v := ⟨_, rfl⟩
  have su1 : S16 u1 := ⟨by omega, by omega⟩
  obtain ⟨v0, hv0⟩ : ∃ v, p0 - a0 = v := ⟨_, rfl⟩
  have sv0 : S16 v0 := ⟨by omega, by omega⟩
  obtain ⟨v1, hv1⟩ : ∃ v, p1 - a1 = v := ⟨_, rfl⟩
  have sv1 : S16 v1 := ⟨by omega, by omega⟩
  obtain ⟨x0, hx0⟩ : ∃ v, p0 - b0 = v := ⟨_, rfl⟩
  have sx0 : S16 x0 := ⟨by omega, by omega⟩
  obtain ⟨x1, hx1⟩ : ∃ v, p1 - b1 = v := ⟨_, rfl⟩
  have sx1 : S16 x1 := ⟨by omega, by omega⟩
  rw [hu0, hu1, hv0, hv1, hx0, hx1] at hr
  clear A B P
  obtain ⟨D1, hD1⟩ : ∃ v, u0 * v0 + u1 * v1 = v := ⟨_, rfl⟩
  obtain ⟨D2, hD2⟩ : ∃ v, u0 * x0 + u1 * x1 = v := ⟨_, rfl⟩
  obtain ⟨VV, hVV⟩ : ∃ v, v0 * v0 + v1 * v1 = v := ⟨_, rfl⟩
  obtain ⟨XX, hXX⟩ : ∃ v, x0 * x0 + x1 * x1 = v := ⟨_, rfl⟩
  obtain ⟨UU, hUU⟩ : ∃ v, u0 * u0 + u1 * u1 = v := ⟨_, rfl⟩
  obtain ⟨CR, hCR⟩ : ∃ v, u0 * v1 - u1 * v0 = v := ⟨_, rfl⟩
  rw [hD1, hD2, hVV, hXX, hUU, hCR] at hr
  have bVV : -8589934592 ≤ VV ∧ VV ≤ 8589934592 := by have := sv0.mul sv0; have := sv1.mul sv1; omega
  have bXX : -8589934592 ≤ XX ∧ XX ≤ 8589934592 := by have := sx0.mul sx0; have := sx1.mul sx1; omega
  have bUU : -8589934592 ≤ UU ∧ UU ≤ 8589934592 := by have := su0.mul su0; have := su1.mul su1; omega
  have bCR : -8589934592 ≤ CR ∧ CR ≤ 8589934592 := by have := su0.mul sv1; have := su1.mul sv0; omega
  have w4V : IntKind.i64.wrap (4 * VV) = 4 * VV := IntWalk.i64_in _ (by omega)
  have w4X : IntKind.i64.wrap (4 * XX) = 4 * XX := IntWalk.i64_in _ (by omega)
  obtain ⟨TW, hTW⟩ : ∃ v, 2 * CR = v := ⟨_, rfl⟩
  have w2C : IntKind.i64.wrap (2 * CR) = TW := hTW ▸ IntWalk.i64_in _ (by omega)
  rw [hTW] at hr
  obtain ⟨SG, hSG⟩ : ∃ v, (TW * TW - n * UU).sign = v := ⟨_, rfl⟩
  rw [hSG] at hr
  have iT : I64 TW := ⟨by omega, by omega⟩
  have iU : I64 UU := ⟨by omega, by omega⟩
  have H_hu0 := Lib.hid hu0
  have H_hu1 := Lib.hid hu1
  have H_hv0 := Lib.hid hv0
  have H_hv1 := Lib.hid hv1
  have H_hx0 := Lib.hid hx0
  have H_hx1 := Lib.hid hx1
  have H_hD1 := Lib.hid hD1
  have H_hD2 := Lib.hid hD2
  have H_hVV := Lib.hid hVV
  have H_hXX := Lib.hid hXX
  have H_hUU := Lib.hid hUU
  have H_hCR := Lib.hid hCR
  have H_hSG := Lib.hid hSG
  clear hu0 hu1 hv0 hv1 hx0 hx1 hD1 hD2 hVV hXX hUU hCR hSG hTW
  have HN := Lib.hid hn
  clear hn
  have SA0_ := Lib.hid sa0
  have SA1_ := Lib.hid sa1
  have SB0_ := Lib.hid sb0
  have SB1_ := Lib.hid sb1
  have SP0_ := Lib.hid sp0
  have SP1_ := Lib.hid sp1
  have SU0_ := Lib.hid su0
  have SU1_ := Lib.hid su1
  have SV0_ := Lib.hid sv0
  have SV1_ := Lib.hid sv1
  have SX0_ := Lib.hid sx0
  have SX1_ := Lib.hid sx1
  have IT_ := Lib.hid iT
  have IU_ := Lib.hid iU
  clear sa0 sa1 sb0 sb1 sp0 sp1 su0 su1 sv0 sv1 sx0 sx1 iT iU
  have C0 := has2 (w := w) [.int .i64 a0, .int .i64 a1, .int .i64 b0, .int .i64 b1] [.int .i64 p0, .int .i64 p1] 64 36
  have HRR := Lib.hid hr
  clear hr
  go_enter Try.func49, Try.ntmps49
  go_upto_region 1 with fail
  change Has w _ ((w.alloc (.cells #[.int .i64 a0, .int .i64 a1, .int .i64 b0, .int .i64 b1] 64)).alloc (.cells #[.int .i64 p0, .int .i64 p1] 36)) at C0
  generalize (w.alloc (.cells #[.int .i64 a0, .int .i64 a1, .int .i64 b0, .int .i64 b1] 64)).alloc (.cells #[.int .i64 p0, .int .i64 p1] 36) = w1 at *
  have X0 := C0.drew
  have ms1 := Lib.hid (show ∀ w', Has w [(w.heap.size, [.int .i64 a0, .int .i64 a1, .int .i64 b0, .int .i64 b1]), (w.heap.size + 1, [.int .i64 p0, .int .i64 p1])] w' → (w'.cell? ⟨w.heap.size, 0, none⟩ = some (.int .i64 a0) ∧ w'.cell? ⟨w.heap.size, 1, none⟩ = some (.int .i64 a1) ∧ w'.cell? ⟨w.heap.size, 2, none⟩ = some (.int .i64 b0) ∧ w'.cell? ⟨w.heap.size, 3, none⟩ = some (.int .i64 b1) ∧ w'.cell? ⟨w.heap.size + 1, 0, none⟩ = some (.int .i64 p0) ∧ w'.cell? ⟨w.heap.size + 1, 1, none⟩ = some (.int .i64 p1)) ∧ Has w [(w.heap.size, [.int .i64 a0, .int .i64 a1, .int .i64 b0, .int .i64 b1]), (w.heap.size + 1, [.int .i64 p0, .int .i64 p1])] w' from fun w' h => ⟨⟨h.fact (.head _) (i := 0) rfl, h.fact (.head _) (i := 1) rfl, h.fact (.head _) (i := 2) rfl, h.fact (.head _) (i := 3) rfl, h.tail.fact (.head _) (i := 0) rfl, h.tail.fact (.head _) (i := 1) rfl⟩, h⟩)
  refine wp_region_held_drew (S := (fun w' => (w'.cell? ⟨w.heap.size, 0, none⟩ = some (.int .i64 a0) ∧ w'.cell? ⟨w.heap.size, 1, none⟩ = some (.int .i64 a1) ∧ w'.cell? ⟨w.heap.size, 2, none⟩ = some (.int .i64 b0) ∧ w'.cell? ⟨w.heap.size, 3, none⟩ = some (.int .i64 b1) ∧ w'.cell? ⟨w.heap.size + 1, 0, none⟩ = some (.int .i64 p0) ∧ w'.cell? ⟨w.heap.size + 1, 1, none⟩ = some (.int .i64 p1)) ∧ Has w [(w.heap.size, [.int .i64 a0, .int .i64 a1, .int .i64 b0, .int .i64 b1]), (w.heap.size + 1, [.int .i64 p0, .int .i64 p1])] w')) (by kernel_rfl) (ms1.out _ X0) (fun hHeld => ?_)
  refine wpAnyT_begin [0, 1, 2, 3, 5, 6, 7, 9, 10, 11] (by kernel_rfl) (by kernel_rfl) ?_
  refine wpAnyT_take (oi := ⟨some 11, Op.fieldAddr 64 (Operand.tmp 3) 1, 0, _, _, none⟩) (v := .pointer (some ⟨w.heap.size, 2, none⟩)) rfl (fun _ _ _ h => h) (by rfl) (by assumption) (fun wS hSw => ?_) ?_
  · (try dsimp only at hSw); go_simp
  simp only [Act.put, List.setIfInBounds_toArray, List.set_cons_zero, List.set_cons_succ]
  refine wpAnyT_take (oi := ⟨some 12, Op.load 36 (Operand.tmp 11), 36, _, _, none⟩) (v := .agg #[.int .i64 b0, .int .i64 b1]) rfl (fun _ _ _ h => h) (by rfl) (by assumption) (fun wS hSw => ?_) ?_
  · (try dsimp only at hSw); go_simp
  simp only [Act.put, List.setIfInBounds_toArray, List.set_cons_zero, List.set_cons_succ]
  refine wpAnyT_take (oi := ⟨some 13, Op.fieldAddr 64 (Operand.tmp 3) 0, 0, _, _, none⟩) (v := .pointer (some ⟨w.heap.size, 0, none⟩)) rfl (fun _ _ _ h => h) (by rfl) (by assumption) (fun wS hSw => ?_) ?_
  · (try dsimp only at hSw); go_simp
  simp only [Act.put, List.setIfInBounds_toArray, List.set_cons_zero, List.set_cons_succ]
  refine wpAnyT_take (oi := ⟨some 14, Op.load 36 (Operand.tmp 13), 36, _, _, none⟩) (v := .agg #[.int .i64 a0, .int .i64 a1]) rfl (fun _ _ _ h => h) (by rfl) (by assumption) (fun wS hSw => ?_) ?_
  · (try dsimp only at hSw); go_simp
  simp only [Act.put, List.setIfInBounds_toArray, List.set_cons_zero, List.set_cons_succ]
  refine wpAnyT_take (oi := ⟨some 16, Op.load 36 (Operand.tmp 4), 36, _, _, none⟩) (v := .agg #[.int .i64 p0, .int .i64 p1]) rfl (fun _ _ _ h => h) (by rfl) (by assumption) (fun wS hSw => ?_) ?_
  · (try dsimp only at hSw); go_simp
  simp only [Act.put, List.setIfInBounds_toArray, List.set_cons_zero, List.set_cons_succ]
  refine wpAnyT_take (oi := ⟨some 17, Op.fieldAddr 64 (Operand.tmp 3) 0, 0, _, _, none⟩) (v := .pointer (some ⟨w.heap.size, 0, none⟩)) rfl (fun _ _ _ h => h) (by rfl) (by assumption) (fun wS hSw => ?_) ?_
  · (try dsimp only at hSw); go_simp
  simp only [Act.put, List.setIfInBounds_toArray, List.set_cons_zero, List.set_cons_succ]
  refine wpAnyT_take (oi := ⟨some 18, Op.load 36 (Operand.tmp 17), 36, _, _, none⟩) (v := .agg #[.int .i64 a0, .int .i64 a1]) rfl (fun _ _ _ h => h) (by rfl) (by assumption) (fun wS hSw => ?_) ?_
  · (try dsimp only at hSw); go_simp
  simp only [Act.put, List.setIfInBounds_toArray, List.set_cons_zero, List.set_cons_succ]
  refine wpAnyT_take (oi := ⟨some 20, Op.load 36 (Operand.tmp 4), 36, _, _, none⟩) (v := .agg #[.int .i64 p0, .int .i64 p1]) rfl (fun _ _ _ h => h) (by rfl) (by assumption) (fun wS hSw => ?_) ?_
  · (try dsimp only at hSw); go_simp
  simp only [Act.put, List.setIfInBounds_toArray, List.set_cons_zero, List.set_cons_succ]
  refine wpAnyT_take (oi := ⟨some 21, Op.fieldAddr 64 (Operand.tmp 3) 1, 0, _, _, none⟩) (v := .pointer (some ⟨w.heap.size, 2, none⟩)) rfl (fun _ _ _ h => h) (by rfl) (by assumption) (fun wS hSw => ?_) ?_
  · (try dsimp only at hSw); go_simp
  simp only [Act.put, List.setIfInBounds_toArray, List.set_cons_zero, List.set_cons_succ]
  refine wpAnyT_take (oi := ⟨some 22, Op.load 36 (Operand.tmp 21), 36, _, _, none⟩) (v := .agg #[.int .i64 b0, .int .i64 b1]) rfl (fun _ _ _ h => h) (by rfl) (by assumption) (fun wS hSw => ?_) ?_
  · (try dsimp only at hSw); go_simp
  simp only [Act.put, List.setIfInBounds_toArray, List.set_cons_zero, List.set_cons_succ]
  refine wpAnyT_end ?_
  refine wpAnyH_listed #[true, true, true, true, false, true, true, true, false, true, true, true, false, false, false, false, false, false, false] (by kernel_rfl) ?_
  refine any_ind (X := Sta) (n := fun sx => (3 - sx.n) + (if sx.a.isSome then 0 else 1) + (if sx.b.isSome then 0 else 1) + (if sx.c.isSome then 0 else 1)) (l := fun sx => #[true, true, true, true, decide (1 ≤ sx.n), true, true, true, decide (2 ≤ sx.n), true, true, true, decide (3 ≤ sx.n), sx.a.isSome, sx.b.isSome, sx.c.isSome, false, false, false]) (u := fun sx t => (putc 15 (.agg #[.int .i64 u0, .int .i64 u1]) (decide (1 ≤ sx.n)) (putc 19 (.agg #[.int .i64 v0, .int .i64 v1]) (decide (2 ≤ sx.n)) (putc 23 (.agg #[.int .i64 x0, .int .i64 x1]) (decide (3 ≤ sx.n)) (putp 7 sx.a (putp 8 sx.b (putp 9 sx.c t))))))) (I := fun sx w' => sx.n ≤ 3 ∧ Has w (bl [.int .i64 0, .int .i64 0] sx.a (bl [.int .i64 0, .int .i64 0] sx.b (bl [.int .i64 0, .int .i64 0] sx.c [(w.heap.size, [.int .i64 a0, .int .i64 a1, .int .i64 b0, .int .i64 b1]), (w.heap.size + 1, [.int .i64 p0, .int .i64 p1])]))) w') (m := 3) ⟨none, none, none, 0⟩ (by kernel_rfl) (by kernel_rfl) (by kernel_rfl) ⟨Nat.zero_le _, X0⟩ ?_ ?_
  · rintro k ih ⟨pa, pb, pc, c⟩ w2 hk ⟨hc, hH⟩
    clear hHeld
    obtain rfl | rfl | rfl | rfl : c = 0 ∨ c = 1 ∨ c = 2 ∨ c = 3 := by simp only at hc; omega
    · cases pa with
      | none =>
        cases pb with
        | none =>
          cases pc with
          | none =>
            simp only [Option.isSome, Bool.false_eq_true, if_false, if_true] at hk
            simp only [putc, putp, Act.put, decide_eq_true_eq, decide_true, decide_false, Nat.le_refl, Nat.reduceLeDiff, List.setIfInBounds_toArray, List.set_cons_zero, List.set_cons_succ]
            refine wpAnyH_listed #[true, true, true, true, false, true, true, true, false, true, true, true, false, false, false, false, false, false, false] (by kernel_rfl) ?_
            refine wpAnyH_ready (rs := [4, 13, 14, 15]) (by kernel_rfl) (by simp) ?_
            refine AllReadyH.cons (o := ⟨some 15, Op.call { callee := Callee.value (Operand.func 40), args := #[Operand.tmp 12, Operand.tmp 14], argTypes := #[36, 36] }, 36, _, _, none⟩) rfl (fun K hK => ?_) (?_)
            · go_simp
              go_at_call 40
              refine (Has.call hH (sub_b SB0_.out SB1_.out SA0_.out SA1_.out u0 u1 H_hu0.out H_hu1.out _)).mono ?_
              rintro e W ⟨rfl, hC⟩
              go_wp2_with fail
              refine hK.out _ _ (ms1.out _ hC) (fun _ => ?_)
              exact wpAnyH_cast rfl (by kernel_rfl) (by kernel_rfl) (ih ⟨none, none, none, 1⟩ _ (by simp only [Option.isSome, Bool.false_eq_true, if_false, if_true]; omega) ⟨by simp, hC⟩)
            refine AllReadyH.cons (o := ⟨some 7, Op.alloc 36, 0, _, _, none⟩) rfl (fun K hK => ?_) (?_)
            · go_simp
              have hC := (hH.push [.int .i64 0, .int .i64 0] 36)
              change Has w _ (w2.alloc (.cells #[.int .i64 0, .int .i64 0] 36)) at hC
              generalize w2.alloc (.cells #[.int .i64 0, .int .i64 0] 36) = W at *
              generalize w2.heap.size = P at *
              have hC' : Has w ([(P, [.int .i64 0, .int .i64 0])] ++ [(w.heap.size, [.int .i64 a0, .int .i64 a1, .int .i64 b0, .int .i64 b1]), (w.heap.size + 1, [.int .i64 p0, .int .i64 p1])]) W := hC
              refine hK.out _ _ (ms1.out _ (hC.tail)) (fun _ => ?_)
              exact wpAnyH_cast rfl (by kernel_rfl) (by kernel_rfl) (ih ⟨some P, none, none, 0⟩ _ (by simp only [Option.isSome, Bool.false_eq_true, if_false, if_true]; omega) ⟨by simp, hC⟩)
            refine AllReadyH.cons (o := ⟨some 8, Op.alloc 36, 0, _, _, none⟩) rfl (fun K hK => ?_) (?_)
            · go_simp
              have hC := (hH.push [.int .i64 0, .int .i64 0] 36)
              change Has w _ (w2.alloc (.cells #[.int .i64 0, .int .i64 0] 36)) at hC
              generalize w2.alloc (.cells #[.int .i64 0, .int .i64 0] 36) = W at *
              generalize w2.heap.size = Q at *
              have hC' : Has w ([(Q, [.int .i64 0, .int .i64 0])] ++ [(w.heap.size, [.int .i64 a0, .int .i64 a1, .int .i64 b0, .int .i64 b1]), (w.heap.size + 1, [.int .i64 p0, .int .i64 p1])]) W := hC
              refine hK.out _ _ (ms1.out _ (hC.tail)) (fun _ => ?_)
              exact wpAnyH_cast rfl (by kernel_rfl) (by kernel_rfl) (ih ⟨none, some Q, none, 0⟩ _ (by simp only [Option.isSome, Bool.false_eq_true, if_false, if_true]; omega) ⟨by simp, hC⟩)
            refine AllReadyH.cons (o := ⟨some 9, Op.alloc 36, 0, _, _, none⟩) rfl (fun K hK => ?_) (AllReadyH.nil)
            · go_simp
              have hC := (hH.push [.int .i64 0, .int .i64 0] 36)
              change Has w _ (w2.alloc (.cells #[.int .i64 0, .int .i64 0] 36)) at hC
              generalize w2.alloc (.cells #[.int .i64 0, .int .i64 0] 36) = W at *
              generalize w2.heap.size = R at *
              have hC' : Has w ([(R, [.int .i64 0, .int .i64 0])] ++ [(w.heap.size, [.int .i64 a0, .int .i64 a1, .int .i64 b0, .int .i64 b1]), (w.heap.size + 1, [.int .i64 p0, .int .i64 p1])]) W := hC
              refine hK.out _ _ (ms1.out _ (hC.tail)) (fun _ => ?_)
              exact wpAnyH_cast rfl (by kernel_rfl) (by kernel_rfl) (ih ⟨none, none, some R, 0⟩ _ (by simp only [Option.isSome, Bool.false_eq_true, if_false, if_true]; omega) ⟨by simp, hC⟩)
          | some R =>
            simp only [Option.isSome, Bool.false_eq_true, if_false, if_true] at hk
            simp only [putc, putp, Act.put, decide_eq_true_eq, decide_true, decide_false, Nat.le_refl, Nat.reduceLeDiff, List.setIfInBounds_toArray, List.set_cons_zero, List.set_cons_succ]
            refine wpAnyH_listed #[true, true, true, true, false, true, true, true, false, true, true, true, false, false, false, true, false, false, false] (by kernel_rfl) ?_
            refine wpAnyH_ready (rs := [4, 13, 14]) (by kernel_rfl) (by simp) ?_
            refine AllReadyH.cons (o := ⟨some 15, Op.call { callee := Callee.value (Operand.func 40), args := #[Operand.tmp 12, Operand.tmp 14], argTypes := #[36, 36] }, 36, _, _, none⟩) rfl (fun K hK => ?_) (?_)
            · go_simp
              go_at_call 40
              refine (Has.call hH (sub_b SB0_.out SB1_.out SA0_.out SA1_.out u0 u1 H_hu0.out H_hu1.out _)).mono ?_
              rintro e W ⟨rfl, hC⟩
              go_wp2_with fail
              refine hK.out _ _ (ms1.out _ hC.tail) (fun _ => ?_)
              exact wpAnyH_cast rfl (by kernel_rfl) (by kernel_rfl) (ih ⟨none, none, some R, 1⟩ _ (by simp only [Option.isSome, Bool.false_eq_true, if_false, if_true]; omega) ⟨by simp, hC⟩)
            refine AllReadyH.cons (o := ⟨some 7, Op.alloc 36, 0, _, _, none⟩) rfl (fun K hK => ?_) (?_)
            · go_simp
              have hC := (hH.push [.int .i64 0, .int .i64 0] 36)
              change Has w _ (w2.alloc (.cells #[.int .i64 0, .int .i64 0] 36)) at hC
              generalize w2.alloc (.cells #[.int .i64 0, .int .i64 0] 36) = W at *
              generalize w2.heap.size = P at *
              have hC' : Has w ([(P, [.int .i64 0, .int .i64 0]), (R, [.int .i64 0, .int .i64 0])] ++ [(w.heap.size, [.int .i64 a0, .int .i64 a1, .int .i64 b0, .int .i64 b1]), (w.heap.size + 1, [.int .i64 p0, .int .i64 p1])]) W := hC
              refine hK.out _ _ (ms1.out _ (hC.tail.tail)) (fun _ => ?_)
              exact wpAnyH_cast rfl (by kernel_rfl) (by kernel_rfl) (ih ⟨some P, none, some R, 0⟩ _ (by simp only [Option.isSome, Bool.false_eq_true, if_false, if_true]; omega) ⟨by simp, hC⟩)
            refine AllReadyH.cons (o := ⟨some 8, Op.alloc 36, 0, _, _, none⟩) rfl (fun K hK => ?_) (AllReadyH.nil)
            · go_simp
              have hC := (hH.push [.int .i64 0, .int .i64 0] 36)
              change Has w _ (w2.alloc (.cells #[.int .i64 0, .int .i64 0] 36)) at hC
              generalize w2.alloc (.cells #[.int .i64 0, .int .i64 0] 36) = W at *
              generalize w2.heap.size = Q at *
              have hC' : Has w ([(Q, [.int .i64 0, .int .i64 0]), (R, [.int .i64 0, .int .i64 0])] ++ [(w.heap.size, [.int .i64 a0, .int .i64 a1, .int .i64 b0, .int .i64 b1]), (w.heap.size + 1, [.int .i64 p0, .int .i64 p1])]) W := hC
              refine hK.out _ _ (ms1.out _ (hC.tail.tail)) (fun _ => ?_)
              exact wpAnyH_cast rfl (by kernel_rfl) (by kernel_rfl) (ih ⟨none, some Q, some R, 0⟩ _ (by simp only [Option.isSome, Bool.false_eq_true, if_false, if_true]; omega) ⟨by simp, hC⟩)
        | some Q =>
          cases pc with
          | none =>
            simp only [Option.isSome, Bool.false_eq_true, if_false, if_true] at hk
            simp only [putc, putp, Act.put, decide_eq_true_eq, decide_true, decide_false, Nat.le_refl, Nat.reduceLeDiff, List.setIfInBounds_toArray, List.set_cons_zero, List.set_cons_succ]
            refine wpAnyH_listed #[true, true, true, true, false, true, true, true, false, true, true, true, false, false, true, false, false, false, false] (by kernel_rfl) ?_
            refine wpAnyH_ready (rs := [4, 13, 15]) (by kernel_rfl) (by simp) ?_
            refine AllReadyH.cons (o := ⟨some 15, Op.call { callee := Callee.value (Operand.func 40), args := #[Operand.tmp 12, Operand.tmp 14], argTypes := #[36, 36] }, 36, _, _, none⟩) rfl (fun K hK => ?_) (?_)
            · go_simp
              go_at_call 40
              refine (Has.call hH (sub_b SB0_.out SB1_.out SA0_.out SA1_.out u0 u1 H_hu0.out H_hu1.out _)).mono ?_
              rintro e W ⟨rfl, hC⟩
              go_wp2_with fail
              refine hK.out _ _ (ms1.out _ hC.tail) (fun _ => ?_)
              exact wpAnyH_cast rfl (by kernel_rfl) (by kernel_rfl) (ih ⟨none, some Q, none, 1⟩ _ (by simp only [Option.isSome, Bool.false_eq_true, if_false, if_true]; omega) ⟨by simp, hC⟩)
            refine AllReadyH.cons (o := ⟨some 7, Op.alloc 36, 0, _, _, none⟩) rfl (fun K hK => ?_) (?_)
            · go_simp
              have hC := (hH.push [.int .i64 0, .int .i64 0] 36)
              change Has w _ (w2.alloc (.cells #[.int .i64 0, .int .i64 0] 36)) at hC
              generalize w2.alloc (.cells #[.int .i64 0, .int .i64 0] 36) = W at *
              generalize w2.heap.size = P at *
              have hC' : Has w ([(P, [.int .i64 0, .int .i64 0]), (Q, [.int .i64 0, .int .i64 0])] ++ [(w.heap.size, [.int .i64 a0, .int .i64 a1, .int .i64 b0, .int .i64 b1]), (w.heap.size + 1, [.int .i64 p0, .int .i64 p1])]) W := hC
              refine hK.out _ _ (ms1.out _ (hC.tail.tail)) (fun _ => ?_)
              exact wpAnyH_cast rfl (by kernel_rfl) (by kernel_rfl) (ih ⟨some P, some Q, none, 0⟩ _ (by simp only [Option.isSome, Bool.false_eq_true, if_false, if_true]; omega) ⟨by simp, hC⟩)
            refine AllReadyH.cons (o := ⟨some 9, Op.alloc 36, 0, _, _, none⟩) rfl (fun K hK => ?_) (AllReadyH.nil)
            · go_simp
              have hC := (hH.push [.int .i64 0, .int .i64 0] 36).swap
              change Has w _ (w2.alloc (.cells #[.int .i64 0, .int .i64 0] 36)) at hC
              generalize w2.alloc (.cells #[.int .i64 0, .int .i64 0] 36) = W at *
              generalize w2.heap.size = R at *
              have hC' : Has w ([(Q, [.int .i64 0, .int .i64 0]), (R, [.int .i64 0, .int .i64 0])] ++ [(w.heap.size, [.int .i64 a0, .int .i64 a1, .int .i64 b0, .int .i64 b1]), (w.heap.size + 1, [.int .i64 p0, .int .i64 p1])]) W := hC
              refine hK.out _ _ (ms1.out _ (hC.tail.tail)) (fun _ => ?_)
              exact wpAnyH_cast rfl (by kernel_rfl) (by kernel_rfl) (ih ⟨none, some Q, some R, 0⟩ _ (by simp only [Option.isSome, Bool.false_eq_true, if_false, if_true]; omega) ⟨by simp, hC⟩)
          | some R =>
            simp only [Option.isSome, Bool.false_eq_true, if_false, if_true] at hk
            simp only [putc, putp, Act.put, decide_eq_true_eq, decide_true, decide_false, Nat.le_refl, Nat.reduceLeDiff, List.setIfInBounds_toArray, List.set_cons_zero, List.set_cons_succ]
            refine wpAnyH_listed #[true, true, true, true, false, true, true, true, false, true, true, true, false, false, true, true, false, false, false] (by kernel_rfl) ?_
            refine wpAnyH_ready (rs := [4, 13]) (by kernel_rfl) (by simp) ?_
            refine AllReadyH.cons (o := ⟨some 15, Op.call { callee := Callee.value (Operand.func 40), args := #[Operand.tmp 12, Operand.tmp 14], argTypes := #[36, 36] }, 36, _, _, none⟩) rfl (fun K hK => ?_) (?_)
            · go_simp
              go_at_call 40
              refine (Has.call hH (sub_b SB0_.out SB1_.out SA0_.out SA1_.out u0 u1 H_hu0.out H_hu1.out _)).mono ?_
              rintro e W ⟨rfl, hC⟩
              go_wp2_with fail
              refine hK.out _ _ (ms1.out _ hC.tail.tail) (fun _ => ?_)
              exact wpAnyH_cast rfl (by kernel_rfl) (by kernel_rfl) (ih ⟨none, some Q, some R, 1⟩ _ (by simp only [Option.isSome, Bool.false_eq_true, if_false, if_true]; omega) ⟨by simp, hC⟩)
            refine AllReadyH.cons (o := ⟨some 7, Op.alloc 36, 0, _, _, none⟩) rfl (fun K hK => ?_) (AllReadyH.nil)
            · go_simp
              have hC := (hH.push [.int .i64 0, .int .i64 0] 36)
              change Has w _ (w2.alloc (.cells #[.int .i64 0, .int .i64 0] 36)) at hC
              generalize w2.alloc (.cells #[.int .i64 0, .int .i64 0] 36) = W at *
              generalize w2.heap.size = P at *
              have hC' : Has w ([(P, [.int .i64 0, .int .i64 0]), (Q, [.int .i64 0, .int .i64 0]), (R, [.int .i64 0, .int .i64 0])] ++ [(w.heap.size, [.int .i64 a0, .int .i64 a1, .int .i64 b0, .int .i64 b1]), (w.heap.size + 1, [.int .i64 p0, .int .i64 p1])]) W := hC
              refine hK.out _ _ (ms1.out _ (hC.tail.tail.tail)) (fun _ => ?_)
              exact wpAnyH_cast rfl (by kernel_rfl) (by kernel_rfl) (ih ⟨some P, some Q, some R, 0⟩ _ (by simp only [Option.isSome, Bool.false_eq_true, if_false, if_true]; omega) ⟨by simp, hC⟩)
      | some P =>
        cases pb with
        | none =>
          cases pc with
          | none =>
            simp only [Option.isSome, Bool.false_eq_true, if_false, if_true] at hk
            simp only [putc, putp, Act.put, decide_eq_true_eq, decide_true, decide_false, Nat.le_refl, Nat.reduceLeDiff, List.setIfInBounds_toArray, List.set_cons_zero, List.set_cons_succ]
            refine wpAnyH_listed #[true, true, true, true, false, true, true, true, false, true, true, true, false, true, false, false, false, false, false] (by kernel_rfl) ?_
            refine wpAnyH_ready (rs := [4, 14, 15]) (by kernel_rfl) (by simp) ?_
            refine AllReadyH.cons (o := ⟨some 15, Op.call { callee := Callee.value (Operand.func 40), args := #[Operand.tmp 12, Operand.tmp 14], argTypes := #[36, 36] }, 36, _, _, none⟩) rfl (fun K hK => ?_) (?_)
            · go_simp
              go_at_call 40
              refine (Has.call hH (sub_b SB0_.out SB1_.out SA0_.out SA1_.out u0 u1 H_hu0.out H_hu1.out _)).mono ?_
              rintro e W ⟨rfl, hC⟩
              go_wp2_with fail
              refine hK.out _ _ (ms1.out _ hC.tail) (fun _ => ?_)
              exact wpAnyH_cast rfl (by kernel_rfl) (by kernel_rfl) (ih ⟨some P, none, none, 1⟩ _ (by simp only [Option.isSome, Bool.false_eq_true, if_false, if_true]; omega) ⟨by simp, hC⟩)
            refine AllReadyH.cons (o := ⟨some 8, Op.alloc 36, 0, _, _, none⟩) rfl (fun K hK => ?_) (?_)
            · go_simp
              have hC := (hH.push [.int .i64 0, .int .i64 0] 36).swap
              change Has w _ (w2.alloc (.cells #[.int .i64 0, .int .i64 0] 36)) at hC
              generalize w2.alloc (.cells #[.int .i64 0, .int .i64 0] 36) = W at *
              generalize w2.heap.size = Q at *
              have hC' : Has w ([(P, [.int .i64 0, .int .i64 0]), (Q, [.int .i64 0, .int .i64 0])] ++ [(w.heap.size, [.int .i64 a0, .int .i64 a1, .int .i64 b0, .int .i64 b1]), (w.heap.size + 1, [.int .i64 p0, .int .i64 p1])]) W := hC
              refine hK.out _ _ (ms1.out _ (hC.tail.tail)) (fun _ => ?_)
              exact wpAnyH_cast rfl (by kernel_rfl) (by kernel_rfl) (ih ⟨some P, some Q, none, 0⟩ _ (by simp only [Option.isSome, Bool.false_eq_true, if_false, if_true]; omega) ⟨by simp, hC⟩)
            refine AllReadyH.cons (o := ⟨some 9, Op.alloc 36, 0, _, _, none⟩) rfl (fun K hK => ?_) (AllReadyH.nil)
            · go_simp
              have hC := (hH.push [.int .i64 0, .int .i64 0] 36).swap
              change Has w _ (w2.alloc (.cells #[.int .i64 0, .int .i64 0] 36)) at hC
              generalize w2.alloc (.cells #[.int .i64 0, .int .i64 0] 36) = W at *
              generalize w2.heap.size = R at *
              have hC' : Has w ([(P, [.int .i64 0, .int .i64 0]), (R, [.int .i64 0, .int .i64 0])] ++ [(w.heap.size, [.int .i64 a0, .int .i64 a1, .int .i64 b0, .int .i64 b1]), (w.heap.size + 1, [.int .i64 p0, .int .i64 p1])]) W := hC
              refine hK.out _ _ (ms1.out _ (hC.tail.tail)) (fun _ => ?_)
              exact wpAnyH_cast rfl (by kernel_rfl) (by kernel_rfl) (ih ⟨some P, none, some R, 0⟩ _ (by simp only [Option.isSome, Bool.false_eq_true, if_false, if_true]; omega) ⟨by simp, hC⟩)
          | some R =>
            simp only [Option.isSome, Bool.false_eq_true, if_false, if_true] at hk
            simp only [putc, putp, Act.put, decide_eq_true_eq, decide_true, decide_false, Nat.le_refl, Nat.reduceLeDiff, List.setIfInBounds_toArray, List.set_cons_zero, List.set_cons_succ]
            refine wpAnyH_listed #[true, true, true, true, false, true, true, true, false, true, true, true, false, true, false, true, false, false, false] (by kernel_rfl) ?_
            refine wpAnyH_ready (rs := [4, 14]) (by kernel_rfl) (by simp) ?_
            refine AllReadyH.cons (o := ⟨some 15, Op.call { callee := Callee.value (Operand.func 40), args := #[Operand.tmp 12, Operand.tmp 14], argTypes := #[36, 36] }, 36, _, _, none⟩) rfl (fun K hK => ?_) (?_)
            · go_simp
              go_at_call 40
              refine (Has.call hH (sub_b SB0_.out SB1_.out SA0_.out SA1_.out u0 u1 H_hu0.out H_hu1.out _)).mono ?_
              rintro e W ⟨rfl, hC⟩
              go_wp2_with fail
              refine hK.out _ _ (ms1.out _ hC.tail.tail) (fun _ => ?_)
              exact wpAnyH_cast rfl (by kernel_rfl) (by kernel_rfl) (ih ⟨some P, none, some R, 1⟩ _ (by simp only [Option.isSome, Bool.false_eq_true, if_false, if_true]; omega) ⟨by simp, hC⟩)
            refine AllReadyH.cons (o := ⟨some 8, Op.alloc 36, 0, _, _, none⟩) rfl (fun K hK => ?_) (AllReadyH.nil)
            · go_simp
              have hC := (hH.push [.int .i64 0, .int .i64 0] 36).swap
              change Has w _ (w2.alloc (.cells #[.int .i64 0, .int .i64 0] 36)) at hC
              generalize w2.alloc (.cells #[.int .i64 0, .int .i64 0] 36) = W at *
              generalize w2.heap.size = Q at *
              have hC' : Has w ([(P, [.int .i64 0, .int .i64 0]), (Q, [.int .i64 0, .int .i64 0]), (R, [.int .i64 0, .int .i64 0])] ++ [(w.heap.size, [.int .i64 a0, .int .i64 a1, .int .i64 b0, .int .i64 b1]), (w.heap.size + 1, [.int .i64 p0, .int .i64 p1])]) W := hC
              refine hK.out _ _ (ms1.out _ (hC.tail.tail.tail)) (fun _ => ?_)
              exact wpAnyH_cast rfl (by kernel_rfl) (by kernel_rfl) (ih ⟨some P, some Q, some R, 0⟩ _ (by simp only [Option.isSome, Bool.false_eq_true, if_false, if_true]; omega) ⟨by simp, hC⟩)
        | some Q =>
          cases pc with
          | none =>
            simp only [Option.isSome, Bool.false_eq_true, if_false, if_true] at hk
            simp only [putc, putp, Act.put, decide_eq_true_eq, decide_true, decide_false, Nat.le_refl, Nat.reduceLeDiff, List.setIfInBounds_toArray, List.set_cons_zero, List.set_cons_succ]
            refine wpAnyH_listed #[true, true, true, true, false, true, true, true, false, true, true, true, false, true, true, false, false, false, false] (by kernel_rfl) ?_
            refine wpAnyH_ready (rs := [4, 15]) (by kernel_rfl) (by simp) ?_
            refine AllReadyH.cons (o := ⟨some 15, Op.call { callee := Callee.value (Operand.func 40), args := #[Operand.tmp 12, Operand.tmp 14], argTypes := #[36, 36] }, 36, _, _, none⟩) rfl (fun K hK => ?_) (?_)
            · go_simp
              go_at_call 40
              refine (Has.call hH (sub_b SB0_.out SB1_.out SA0_.out SA1_.out u0 u1 H_hu0.out H_hu1.out _)).mono ?_
              rintro e W ⟨rfl, hC⟩
              go_wp2_with fail
              refine hK.out _ _ (ms1.out _ hC.tail.tail) (fun _ => ?_)
              exact wpAnyH_cast rfl (by kernel_rfl) (by kernel_rfl) (ih ⟨some P, some Q, none, 1⟩ _ (by simp only [Option.isSome, Bool.false_eq_true, if_false, if_true]; omega) ⟨by simp, hC⟩)
            refine AllReadyH.cons (o := ⟨some 9, Op.alloc 36, 0, _, _, none⟩) rfl (fun K hK => ?_) (AllReadyH.nil)
            · go_simp
              have hC := (hH.push [.int .i64 0, .int .i64 0] 36).third.third
              change Has w _ (w2.alloc (.cells #[.int .i64 0, .int .i64 0] 36)) at hC
              generalize w2.alloc (.cells #[.int .i64 0, .int .i64 0] 36) = W at *
              generalize w2.heap.size = R at *
              have hC' : Has w ([(P, [.int .i64 0, .int .i64 0]), (Q, [.int .i64 0, .int .i64 0]), (R, [.int .i64 0, .int .i64 0])] ++ [(w.heap.size, [.int .i64 a0, .int .i64 a1, .int .i64 b0, .int .i64 b1]), (w.heap.size + 1, [.int .i64 p0, .int .i64 p1])]) W := hC
              refine hK.out _ _ (ms1.out _ (hC.tail.tail.tail)) (fun _ => ?_)
              exact wpAnyH_cast rfl (by kernel_rfl) (by kernel_rfl) (ih ⟨some P, some Q, some R, 0⟩ _ (by simp only [Option.isSome, Bool.false_eq_true, if_false, if_true]; omega) ⟨by simp, hC⟩)
          | some R =>
            simp only [Option.isSome, Bool.false_eq_true, if_false, if_true] at hk
            simp only [putc, putp, Act.put, decide_eq_true_eq, decide_true, decide_false, Nat.le_refl, Nat.reduceLeDiff, List.setIfInBounds_toArray, List.set_cons_zero, List.set_cons_succ]
            refine wpAnyH_listed #[true, true, true, true, false, true, true, true, false, true, true, true, false, true, true, true, false, false, false] (by kernel_rfl) ?_
            refine wpAnyH_ready (rs := [4]) (by kernel_rfl) (by simp) ?_
            refine AllReadyH.cons (o := ⟨some 15, Op.call { callee := Callee.value (Operand.func 40), args := #[Operand.tmp 12, Operand.tmp 14], argTypes := #[36, 36] }, 36, _, _, none⟩) rfl (fun K hK => ?_) (AllReadyH.nil)
            · go_simp
              go_at_call 40
              refine (Has.call hH (sub_b SB0_.out SB1_.out SA0_.out SA1_.out u0 u1 H_hu0.out H_hu1.out _)).mono ?_
              rintro e W ⟨rfl, hC⟩
              go_wp2_with fail
              refine hK.out _ _ (ms1.out _ hC.tail.tail.tail) (fun _ => ?_)
              exact wpAnyH_cast rfl (by kernel_rfl) (by kernel_rfl) (ih ⟨some P, some Q, some R, 1⟩ _ (by simp only [Option.isSome, Bool.false_eq_true, if_false, if_true]; omega) ⟨by simp, hC⟩)
    · cases pa with
      | none =>
        cases pb with
        | none =>
          cases pc with
          | none =>
            simp only [Option.isSome, Bool.false_eq_true, if_false, if_true] at hk
            simp only [putc, putp, Act.put, decide_eq_true_eq, decide_true, decide_false, Nat.le_refl, Nat.reduceLeDiff, List.setIfInBounds_toArray, List.set_cons_zero, List.set_cons_succ]
            refine wpAnyH_listed #[true, true, true, true, true, true, true, true, false, true, true, true, false, false, false, false, false, false, false] (by kernel_rfl) ?_
            refine wpAnyH_ready (rs := [8, 13, 14, 15]) (by kernel_rfl) (by simp) ?_
            refine AllReadyH.cons (o := ⟨some 19, Op.call { callee := Callee.value (Operand.func 40), args := #[Operand.tmp 16, Operand.tmp 18], argTypes := #[36, 36] }, 36, _, _, none⟩) rfl (fun K hK => ?_) (?_)
            · go_simp
              go_at_call 40
              refine (Has.call hH (sub_b SP0_.out SP1_.out SA0_.out SA1_.out v0 v1 H_hv0.out H_hv1.out _)).mono ?_
              rintro e W ⟨rfl, hC⟩
              go_wp2_with fail
              refine hK.out _ _ (ms1.out _ hC) (fun _ => ?_)
              exact wpAnyH_cast rfl (by kernel_rfl) (by kernel_rfl) (ih ⟨none, none, none, 2⟩ _ (by simp only [Option.isSome, Bool.false_eq_true, if_false, if_true]; omega) ⟨by simp, hC⟩)
            refine AllReadyH.cons (o := ⟨some 7, Op.alloc 36, 0, _, _, none⟩) rfl (fun K hK => ?_) (?_)
            · go_simp
              have hC := (hH.push [.int .i64 0, .int .i64 0] 36)
              change Has w _ (w2.alloc (.cells #[.int .i64 0, .int .i64 0] 36)) at hC
              generalize w2.alloc (.cells #[.int .i64 0, .int .i64 0] 36) = W at *
              generalize w2.heap.size = P at *
              have hC' : Has w ([(P, [.int .i64 0, .int .i64 0])] ++ [(w.heap.size, [.int .i64 a0, .int .i64 a1, .int .i64 b0, .int .i64 b1]), (w.heap.size + 1, [.int .i64 p0, .int .i64 p1])]) W := hC
              refine hK.out _ _ (ms1.out _ (hC.tail)) (fun _ => ?_)
              exact wpAnyH_cast rfl (by kernel_rfl) (by kernel_rfl) (ih ⟨some P, none, none, 1⟩ _ (by simp only [Option.isSome, Bool.false_eq_true, if_false, if_true]; omega) ⟨by simp, hC⟩)
            refine AllReadyH.cons (o := ⟨some 8, Op.alloc 36, 0, _, _, none⟩) rfl (fun K hK => ?_) (?_)
            · go_simp
              have hC := (hH.push [.int .i64 0, .int .i64 0] 36)
              change Has w _ (w2.alloc (.cells #[.int .i64 0, .int .i64 0] 36)) at hC
              generalize w2.alloc (.cells #[.int .i64 0, .int .i64 0] 36) = W at *
              generalize w2.heap.size = Q at *
              have hC' : Has w ([(Q, [.int .i64 0, .int .i64 0])] ++ [(w.heap.size, [.int .i64 a0, .int .i64 a1, .int .i64 b0, .int .i64 b1]), (w.heap.size + 1, [.int .i64 p0, .int .i64 p1])]) W := hC
              refine hK.out _ _ (ms1.out _ (hC.tail)) (fun _ => ?_)
              exact wpAnyH_cast rfl (by kernel_rfl) (by kernel_rfl) (ih ⟨none, some Q, none, 1⟩ _ (by simp only [Option.isSome, Bool.false_eq_true, if_false, if_true]; omega) ⟨by simp, hC⟩)
            refine AllReadyH.cons (o := ⟨some 9, Op.alloc 36, 0, _, _, none⟩) rfl (fun K hK => ?_) (AllReadyH.nil)
            · go_simp
              have hC := (hH.push [.int .i64 0, .int .i64 0] 36)
              change Has w _ (w2.alloc (.cells #[.int .i64 0, .int .i64 0] 36)) at hC
              generalize w2.alloc (.cells #[.int .i64 0, .int .i64 0] 36) = W at *
              generalize w2.heap.size = R at *
              have hC' : Has w ([(R, [.int .i64 0, .int .i64 0])] ++ [(w.heap.size, [.int .i64 a0, .int .i64 a1, .int .i64 b0, .int .i64 b1]), (w.heap.size + 1, [.int .i64 p0, .int .i64 p1])]) W := hC
              refine hK.out _ _ (ms1.out _ (hC.tail)) (fun _ => ?_)
              exact wpAnyH_cast rfl (by kernel_rfl) (by kernel_rfl) (ih ⟨none, none, some R, 1⟩ _ (by simp only [Option.isSome, Bool.false_eq_true, if_false, if_true]; omega) ⟨by simp, hC⟩)
          | some R =>
            simp only [Option.isSome, Bool.false_eq_true, if_false, if_true] at hk
            simp only [putc, putp, Act.put, decide_eq_true_eq, decide_true, decide_false, Nat.le_refl, Nat.reduceLeDiff, List.setIfInBounds_toArray, List.set_cons_zero, List.set_cons_succ]
            refine wpAnyH_listed #[true, true, true, true, true, true, true, true, false, true, true, true, false, false, false, true, false, false, false] (by kernel_rfl) ?_
            refine wpAnyH_ready (rs := [8, 13, 14]) (by kernel_rfl) (by simp) ?_
            refine AllReadyH.cons (o := ⟨some 19, Op.call { callee := Callee.value (Operand.func 40), args := #[Operand.tmp 16, Operand.tmp 18], argTypes := #[36, 36] }, 36, _, _, none⟩) rfl (fun K hK => ?_) (?_)
            · go_simp
              go_at_call 40
              refine (Has.call hH (sub_b SP0_.out SP1_.out SA0_.out SA1_.out v0 v1 H_hv0.out H_hv1.out _)).mono ?_
              rintro e W ⟨rfl, hC⟩
              go_wp2_with fail
              refine hK.out _ _ (ms1.out _ hC.tail) (fun _ => ?_)
              exact wpAnyH_cast rfl (by kernel_rfl) (by kernel_rfl) (ih ⟨none, none, some R, 2⟩ _ (by simp only [Option.isSome, Bool.false_eq_true, if_false, if_true]; omega) ⟨by simp, hC⟩)
            refine AllReadyH.cons (o := ⟨some 7, Op.alloc 36, 0, _, _, none⟩) rfl (fun K hK => ?_) (?_)
            · go_simp
              have hC := (hH.push [.int .i64 0, .int .i64 0] 36)
              change Has w _ (w2.alloc (.cells #[.int .i64 0, .int .i64 0] 36)) at hC
              generalize w2.alloc (.cells #[.int .i64 0, .int .i64 0] 36) = W at *
              generalize w2.heap.size = P at *
              have hC' : Has w ([(P, [.int .i64 0, .int .i64 0]), (R, [.int .i64 0, .int .i64 0])] ++ [(w.heap.size, [.int .i64 a0, .int .i64 a1, .int .i64 b0, .int .i64 b1]), (w.heap.size + 1, [.int .i64 p0, .int .i64 p1])]) W := hC
              refine hK.out _ _ (ms1.out _ (hC.tail.tail)) (fun _ => ?_)
              exact wpAnyH_cast rfl (by kernel_rfl) (by kernel_rfl) (ih ⟨some P, none, some R, 1⟩ _ (by simp only [Option.isSome, Bool.false_eq_true, if_false, if_true]; omega) ⟨by simp, hC⟩)
            refine AllReadyH.cons (o := ⟨some 8, Op.alloc 36, 0, _, _, none⟩) rfl (fun K hK => ?_) (AllReadyH.nil)
            · go_simp
              have hC := (hH.push [.int .i64 0, .int .i64 0] 36)
              change Has w _ (w2.alloc (.cells #[.int .i64 0, .int .i64 0] 36)) at hC
              generalize w2.alloc (.cells #[.int .i64 0, .int .i64 0] 36) = W at *
              generalize w2.heap.size = Q at *
              have hC' : Has w ([(Q, [.int .i64 0, .int .i64 0]), (R, [.int .i64 0, .int .i64 0])] ++ [(w.heap.size, [.int .i64 a0, .int .i64 a1, .int .i64 b0, .int .i64 b1]), (w.heap.size + 1, [.int .i64 p0, .int .i64 p1])]) W := hC
              refine hK.out _ _ (ms1.out _ (hC.tail.tail)) (fun _ => ?_)
              exact wpAnyH_cast rfl (by kernel_rfl) (by kernel_rfl) (ih ⟨none, some Q, some R, 1⟩ _ (by simp only [Option.isSome, Bool.false_eq_true, if_false, if_true]; omega) ⟨by simp, hC⟩)
        | some Q =>
          cases pc with
          | none =>
            simp only [Option.isSome, Bool.false_eq_true, if_false, if_true] at hk
            simp only [putc, putp, Act.put, decide_eq_true_eq, decide_true, decide_false, Nat.le_refl, Nat.reduceLeDiff, List.setIfInBounds_toArray, List.set_cons_zero, List.set_cons_succ]
            refine wpAnyH_listed #[true, true, true, true, true, true, true, true, false, true, true, true, false, false, true, false, false, false, false] (by kernel_rfl) ?_
            refine wpAnyH_ready (rs := [8, 13, 15]) (by kernel_rfl) (by simp) ?_
            refine AllReadyH.cons (o := ⟨some 19, Op.call { callee := Callee.value (Operand.func 40), args := #[Operand.tmp 16, Operand.tmp 18], argTypes := #[36, 36] }, 36, _, _, none⟩) rfl (fun K hK => ?_) (?_)
            · go_simp
              go_at_call 40
              refine (Has.call hH (sub_b SP0_.out SP1_.out SA0_.out SA1_.out v0 v1 H_hv0.out H_hv1.out _)).mono ?_
              rintro e W ⟨rfl, hC⟩
              go_wp2_with fail
              refine hK.out _ _ (ms1.out _ hC.tail) (fun _ => ?_)
              exact wpAnyH_cast rfl (by kernel_rfl) (by kernel_rfl) (ih ⟨none, some Q, none, 2⟩ _ (by simp only [Option.isSome, Bool.false_eq_true, if_false, if_true]; omega) ⟨by simp, hC⟩)
            refine AllReadyH.cons (o := ⟨some 7, Op.alloc 36, 0, _, _, none⟩) rfl (fun K hK => ?_) (?_)
            · go_simp
              have hC := (hH.push [.int .i64 0, .int .i64 0] 36)
              change Has w _ (w2.alloc (.cells #[.int .i64 0, .int .i64 0] 36)) at hC
              generalize w2.alloc (.cells #[.int .i64 0, .int .i64 0] 36) = W at *
              generalize w2.heap.size = P at *
              have hC' : Has w ([(P, [.int .i64 0, .int .i64 0]), (Q, [.int .i64 0, .int .i64 0])] ++ [(w.heap.size, [.int .i64 a0, .int .i64 a1, .int .i64 b0, .int .i64 b1]), (w.heap.size + 1, [.int .i64 p0, .int .i64 p1])]) W := hC
              refine hK.out _ _ (ms1.out _ (hC.tail.tail)) (fun _ => ?_)
              exact wpAnyH_cast rfl (by kernel_rfl) (by kernel_rfl) (ih ⟨some P, some Q, none, 1⟩ _ (by simp only [Option.isSome, Bool.false_eq_true, if_false, if_true]; omega) ⟨by simp, hC⟩)
            refine AllReadyH.cons (o := ⟨some 9, Op.alloc 36, 0, _, _, none⟩) rfl (fun K hK => ?_) (AllReadyH.nil)
            · go_simp
              have hC := (hH.push [.int .i64 0, .int .i64 0] 36).swap
              change Has w _ (w2.alloc (.cells #[.int .i64 0, .int .i64 0] 36)) at hC
              generalize w2.alloc (.cells #[.int .i64 0, .int .i64 0] 36) = W at *
              generalize w2.heap.size = R at *
              have hC' : Has w ([(Q, [.int .i64 0, .int .i64 0]), (R, [.int .i64 0, .int .i64 0])] ++ [(w.heap.size, [.int .i64 a0, .int .i64 a1, .int .i64 b0, .int .i64 b1]), (w.heap.size + 1, [.int .i64 p0, .int .i64 p1])]) W := hC
              refine hK.out _ _ (ms1.out _ (hC.tail.tail)) (fun _ => ?_)
              exact wpAnyH_cast rfl (by kernel_rfl) (by kernel_rfl) (ih ⟨none, some Q, some R, 1⟩ _ (by simp only [Option.isSome, Bool.false_eq_true, if_false, if_true]; omega) ⟨by simp, hC⟩)
          | some R =>
            simp only [Option.isSome, Bool.false_eq_true, if_false, if_true] at hk
            simp only [putc, putp, Act.put, decide_eq_true_eq, decide_true, decide_false, Nat.le_refl, Nat.reduceLeDiff, List.setIfInBounds_toArray, List.set_cons_zero, List.set_cons_succ]
            refine wpAnyH_listed #[true, true, true, true, true, true, true, true, false, true, true, true, false, false, true, true, false, false, false] (by kernel_rfl) ?_
            refine wpAnyH_ready (rs := [8, 13]) (by kernel_rfl) (by simp) ?_
            refine AllReadyH.cons (o := ⟨some 19, Op.call { callee := Callee.value (Operand.func 40), args := #[Operand.tmp 16, Operand.tmp 18], argTypes := #[36, 36] }, 36, _, _, none⟩) rfl (fun K hK => ?_) (?_)
            · go_simp
              go_at_call 40
              refine (Has.call hH (sub_b SP0_.out SP1_.out SA0_.out SA1_.out v0 v1 H_hv0.out H_hv1.out _)).mono ?_
              rintro e W ⟨rfl, hC⟩
              go_wp2_with fail
              refine hK.out _ _ (ms1.out _ hC.tail.tail) (fun _ => ?_)
              exact wpAnyH_cast rfl (by kernel_rfl) (by kernel_rfl) (ih ⟨none, some Q, some R, 2⟩ _ (by simp only [Option.isSome, Bool.false_eq_true, if_false, if_true]; omega) ⟨by simp, hC⟩)
            refine AllReadyH.cons (o := ⟨some 7, Op.alloc 36, 0, _, _, none⟩) rfl (fun K hK => ?_) (AllReadyH.nil)
            · go_simp
              have hC := (hH.push [.int .i64 0, .int .i64 0] 36)
              change Has w _ (w2.alloc (.cells #[.int .i64 0, .int .i64 0] 36)) at hC
              generalize w2.alloc (.cells #[.int .i64 0, .int .i64 0] 36) = W at *
              generalize w2.heap.size = P at *
              have hC' : Has w ([(P, [.int .i64 0, .int .i64 0]), (Q, [.int .i64 0, .int .i64 0]), (R, [.int .i64 0, .int .i64 0])] ++ [(w.heap.size, [.int .i64 a0, .int .i64 a1, .int .i64 b0, .int .i64 b1]), (w.heap.size + 1, [.int .i64 p0, .int .i64 p1])]) W := hC
              refine hK.out _ _ (ms1.out _ (hC.tail.tail.tail)) (fun _ => ?_)
              exact wpAnyH_cast rfl (by kernel_rfl) (by kernel_rfl) (ih ⟨some P, some Q, some R, 1⟩ _ (by simp only [Option.isSome, Bool.false_eq_true, if_false, if_true]; omega) ⟨by simp, hC⟩)
      | some P =>
        cases pb with
        | none =>
          cases pc with
          | none =>
            simp only [Option.isSome, Bool.false_eq_true, if_false, if_true] at hk
            simp only [putc, putp, Act.put, decide_eq_true_eq, decide_true, decide_false, Nat.le_refl, Nat.reduceLeDiff, List.setIfInBounds_toArray, List.set_cons_zero, List.set_cons_succ]
            refine wpAnyH_listed #[true, true, true, true, true, true, true, true, false, true, true, true, false, true, false, false, false, false, false] (by kernel_rfl) ?_
            refine wpAnyH_ready (rs := [8, 14, 15]) (by kernel_rfl) (by simp) ?_
            refine AllReadyH.cons (o := ⟨some 19, Op.call { callee := Callee.value (Operand.func 40), args := #[Operand.tmp 16, Operand.tmp 18], argTypes := #[36, 36] }, 36, _, _, none⟩) rfl (fun K hK => ?_) (?_)
            · go_simp
              go_at_call 40
              refine (Has.call hH (sub_b SP0_.out SP1_.out SA0_.out SA1_.out v0 v1 H_hv0.out H_hv1.out _)).mono ?_
              rintro e W ⟨rfl, hC⟩
              go_wp2_with fail
              refine hK.out _ _ (ms1.out _ hC.tail) (fun _ => ?_)
              exact wpAnyH_cast rfl (by kernel_rfl) (by kernel_rfl) (ih ⟨some P, none, none, 2⟩ _ (by simp only [Option.isSome, Bool.false_eq_true, if_false, if_true]; omega) ⟨by simp, hC⟩)
            refine AllReadyH.cons (o := ⟨some 8, Op.alloc 36, 0, _, _, none⟩) rfl (fun K hK => ?_) (?_)
            · go_simp
              have hC := (hH.push [.int .i64 0, .int .i64 0] 36).swap
              change Has w _ (w2.alloc (.cells #[.int .i64 0, .int .i64 0] 36)) at hC
              generalize w2.alloc (.cells #[.int .i64 0, .int .i64 0] 36) = W at *
              generalize w2.heap.size = Q at *
              have hC' : Has w ([(P, [.int .i64 0, .int .i64 0]), (Q, [.int .i64 0, .int .i64 0])] ++ [(w.heap.size, [.int .i64 a0, .int .i64 a1, .int .i64 b0, .int .i64 b1]), (w.heap.size + 1, [.int .i64 p0, .int .i64 p1])]) W := hC
              refine hK.out _ _ (ms1.out _ (hC.tail.tail)) (fun _ => ?_)
              exact wpAnyH_cast rfl (by kernel_rfl) (by kernel_rfl) (ih ⟨some P, some Q, none, 1⟩ _ (by simp only [Option.isSome, Bool.false_eq_true, if_false, if_true]; omega) ⟨by simp, hC⟩)
            refine AllReadyH.cons (o := ⟨some 9, Op.alloc 36, 0, _, _, none⟩) rfl (fun K hK => ?_) (AllReadyH.nil)
            · go_simp
              have hC := (hH.push [.int .i64 0, .int .i64 0] 36).swap
              change Has w _ (w2.alloc (.cells #[.int .i64 0, .int .i64 0] 36)) at hC
              generalize w2.alloc (.cells #[.int .i64 0, .int .i64 0] 36) = W at *
              generalize w2.heap.size = R at *
              have hC' : Has w ([(P, [.int .i64 0, .int .i64 0]), (R, [.int .i64 0, .int .i64 0])] ++ [(w.heap.size, [.int .i64 a0, .int .i64 a1, .int .i64 b0, .int .i64 b1]), (w.heap.size + 1, [.int .i64 p0, .int .i64 p1])]) W := hC
              refine hK.out _ _ (ms1.out _ (hC.tail.tail)) (fun _ => ?_)
              exact wpAnyH_cast rfl (by kernel_rfl) (by kernel_rfl) (ih ⟨some P, none, some R, 1⟩ _ (by simp only [Option.isSome, Bool.false_eq_true, if_false, if_true]; omega) ⟨by simp, hC⟩)
          | some R =>
            simp only [Option.isSome, Bool.false_eq_true, if_false, if_true] at hk
            simp only [putc, putp, Act.put, decide_eq_true_eq, decide_true, decide_false, Nat.le_refl, Nat.reduceLeDiff, List.setIfInBounds_toArray, List.set_cons_zero, List.set_cons_succ]
            refine wpAnyH_listed #[true, true, true, true, true, true, true, true, false, true, true, true, false, true, false, true, false, false, false] (by kernel_rfl) ?_
            refine wpAnyH_ready (rs := [8, 14]) (by kernel_rfl) (by simp) ?_
            refine AllReadyH.cons (o := ⟨some 19, Op.call { callee := Callee.value (Operand.func 40), args := #[Operand.tmp 16, Operand.tmp 18], argTypes := #[36, 36] }, 36, _, _, none⟩) rfl (fun K hK => ?_) (?_)
            · go_simp
              go_at_call 40
              refine (Has.call hH (sub_b SP0_.out SP1_.out SA0_.out SA1_.out v0 v1 H_hv0.out H_hv1.out _)).mono ?_
              rintro e W ⟨rfl, hC⟩
              go_wp2_with fail
              refine hK.out _ _ (ms1.out _ hC.tail.tail) (fun _ => ?_)
              exact wpAnyH_cast rfl (by kernel_rfl) (by kernel_rfl) (ih ⟨some P, none, some R, 2⟩ _ (by simp only [Option.isSome, Bool.false_eq_true, if_false, if_true]; omega) ⟨by simp, hC⟩)
            refine AllReadyH.cons (o := ⟨some 8, Op.alloc 36, 0, _, _, none⟩) rfl (fun K hK => ?_) (AllReadyH.nil)
            · go_simp
              have hC := (hH.push [.int .i64 0, .int .i64 0] 36).swap
              change Has w _ (w2.alloc (.cells #[.int .i64 0, .int .i64 0] 36)) at hC
              generalize w2.alloc (.cells #[.int .i64 0, .int .i64 0] 36) = W at *
              generalize w2.heap.size = Q at *
              have hC' : Has w ([(P, [.int .i64 0, .int .i64 0]), (Q, [.int .i64 0, .int .i64 0]), (R, [.int .i64 0, .int .i64 0])] ++ [(w.heap.size, [.int .i64 a0, .int .i64 a1, .int .i64 b0, .int .i64 b1]), (w.heap.size + 1, [.int .i64 p0, .int .i64 p1])]) W := hC
              refine hK.out _ _ (ms1.out _ (hC.tail.tail.tail)) (fun _ => ?_)
              exact wpAnyH_cast rfl (by kernel_rfl) (by kernel_rfl) (ih ⟨some P, some Q, some R, 1⟩ _ (by simp only [Option.isSome, Bool.false_eq_true, if_false, if_true]; omega) ⟨by simp, hC⟩)
        | some Q =>
          cases pc with
          | none =>
            simp only [Option.isSome, Bool.false_eq_true, if_false, if_true] at hk
            simp only [putc, putp, Act.put, decide_eq_true_eq, decide_true, decide_false, Nat.le_refl, Nat.reduceLeDiff, List.setIfInBounds_toArray, List.set_cons_zero, List.set_cons_succ]
            refine wpAnyH_listed #[true, true, true, true, true, true, true, true, false, true, true, true, false, true, true, false, false, false, false] (by kernel_rfl) ?_
            refine wpAnyH_ready (rs := [8, 15]) (by kernel_rfl) (by simp) ?_
            refine AllReadyH.cons (o := ⟨some 19, Op.call { callee := Callee.value (Operand.func 40), args := #[Operand.tmp 16, Operand.tmp 18], argTypes := #[36, 36] }, 36, _, _, none⟩) rfl (fun K hK => ?_) (?_)
            · go_simp
              go_at_call 40
              refine (Has.call hH (sub_b SP0_.out SP1_.out SA0_.out SA1_.out v0 v1 H_hv0.out H_hv1.out _)).mono ?_
              rintro e W ⟨rfl, hC⟩
              go_wp2_with fail
              refine hK.out _ _ (ms1.out _ hC.tail.tail) (fun _ => ?_)
              exact wpAnyH_cast rfl (by kernel_rfl) (by kernel_rfl) (ih ⟨some P, some Q, none, 2⟩ _ (by simp only [Option.isSome, Bool.false_eq_true, if_false, if_true]; omega) ⟨by simp, hC⟩)
            refine AllReadyH.cons (o := ⟨some 9, Op.alloc 36, 0, _, _, none⟩) rfl (fun K hK => ?_) (AllReadyH.nil)
            · go_simp
              have hC := (hH.push [.int .i64 0, .int .i64 0] 36).third.third
              change Has w _ (w2.alloc (.cells #[.int .i64 0, .int .i64 0] 36)) at hC
              generalize w2.alloc (.cells #[.int .i64 0, .int .i64 0] 36) = W at *
              generalize w2.heap.size = R at *
              have hC' : Has w ([(P, [.int .i64 0, .int .i64 0]), (Q, [.int .i64 0, .int .i64 0]), (R, [.int .i64 0, .int .i64 0])] ++ [(w.heap.size, [.int .i64 a0, .int .i64 a1, .int .i64 b0, .int .i64 b1]), (w.heap.size + 1, [.int .i64 p0, .int .i64 p1])]) W := hC
              refine hK.out _ _ (ms1.out _ (hC.tail.tail.tail)) (fun _ => ?_)
              exact wpAnyH_cast rfl (by kernel_rfl) (by kernel_rfl) (ih ⟨some P, some Q, some R, 1⟩ _ (by simp only [Option.isSome, Bool.false_eq_true, if_false, if_true]; omega) ⟨by simp, hC⟩)
          | some R =>
            simp only [Option.isSome, Bool.false_eq_true, if_false, if_true] at hk
            simp only [putc, putp, Act.put, decide_eq_true_eq, decide_true, decide_false, Nat.le_refl, Nat.reduceLeDiff, List.setIfInBounds_toArray, List.set_cons_zero, List.set_cons_succ]
            refine wpAnyH_listed #[true, true, true, true, true, true, true, true, false, true, true, true, false, true, true, true, false, false, false] (by kernel_rfl) ?_
            refine wpAnyH_ready (rs := [8]) (by kernel_rfl) (by simp) ?_
            refine AllReadyH.cons (o := ⟨some 19, Op.call { callee := Callee.value (Operand.func 40), args := #[Operand.tmp 16, Operand.tmp 18], argTypes := #[36, 36] }, 36, _, _, none⟩) rfl (fun K hK => ?_) (AllReadyH.nil)
            · go_simp
              go_at_call 40
              refine (Has.call hH (sub_b SP0_.out SP1_.out SA0_.out SA1_.out v0 v1 H_hv0.out H_hv1.out _)).mono ?_
              rintro e W ⟨rfl, hC⟩
              go_wp2_with fail
              refine hK.out _ _ (ms1.out _ hC.tail.tail.tail) (fun _ => ?_)
              exact wpAnyH_cast rfl (by kernel_rfl) (by kernel_rfl) (ih ⟨some P, some Q, some R, 2⟩ _ (by simp only [Option.isSome, Bool.false_eq_true, if_false, if_true]; omega) ⟨by simp, hC⟩)
    · cases pa with
      | none =>
        cases pb with
        | none =>
          cases pc with
          | none =>
            simp only [Option.isSome, Bool.false_eq_true, if_false, if_true] at hk
            simp only [putc, putp, Act.put, decide_eq_true_eq, decide_true, decide_false, Nat.le_refl, Nat.reduceLeDiff, List.setIfInBounds_toArray, List.set_cons_zero, List.set_cons_succ]
            refine wpAnyH_listed #[true, true, true, true, true, true, true, true, true, true, true, true, false, false, false, false, false, false, false] (by kernel_rfl) ?_
            refine wpAnyH_ready (rs := [12, 13, 14, 15]) (by kernel_rfl) (by simp) ?_
            refine AllReadyH.cons (o := ⟨some 23, Op.call { callee := Callee.value (Operand.func 40), args := #[Operand.tmp 20, Operand.tmp 22], argTypes := #[36, 36] }, 36, _, _, none⟩) rfl (fun K hK => ?_) (?_)
            · go_simp
              go_at_call 40
              refine (Has.call hH (sub_b SP0_.out SP1_.out SB0_.out SB1_.out x0 x1 H_hx0.out H_hx1.out _)).mono ?_
              rintro e W ⟨rfl, hC⟩
              go_wp2_with fail
              refine hK.out _ _ (ms1.out _ hC) (fun _ => ?_)
              exact wpAnyH_cast rfl (by kernel_rfl) (by kernel_rfl) (ih ⟨none, none, none, 3⟩ _ (by simp only [Option.isSome, Bool.false_eq_true, if_false, if_true]; omega) ⟨by simp, hC⟩)
            refine AllReadyH.cons (o := ⟨some 7, Op.alloc 36, 0, _, _, none⟩) rfl (fun K hK => ?_) (?_)
            · go_simp
              have hC := (hH.push [.int .i64 0, .int .i64 0] 36)
              change Has w _ (w2.alloc (.cells #[.int .i64 0, .int .i64 0] 36)) at hC
              generalize w2.alloc (.cells #[.int .i64 0, .int .i64 0] 36) = W at *
              generalize w2.heap.size = P at *
              have hC' : Has w ([(P, [.int .i64 0, .int .i64 0])] ++ [(w.heap.size, [.int .i64 a0, .int .i64 a1, .int .i64 b0, .int .i64 b1]), (w.heap.size + 1, [.int .i64 p0, .int .i64 p1])]) W := hC
              refine hK.out _ _ (ms1.out _ (hC.tail)) (fun _ => ?_)
              exact wpAnyH_cast rfl (by kernel_rfl) (by kernel_rfl) (ih ⟨some P, none, none, 2⟩ _ (by simp only [Option.isSome, Bool.false_eq_true, if_false, if_true]; omega) ⟨by simp, hC⟩)
            refine AllReadyH.cons (o := ⟨some 8, Op.alloc 36, 0, _, _, none⟩) rfl (fun K hK => ?_) (?_)
            · go_simp
              have hC := (hH.push [.int .i64 0, .int .i64 0] 36)
              change Has w _ (w2.alloc (.cells #[.int .i64 0, .int .i64 0] 36)) at hC
              generalize w2.alloc (.cells #[.int .i64 0, .int .i64 0] 36) = W at *
              generalize w2.heap.size = Q at *
              have hC' : Has w ([(Q, [.int .i64 0, .int .i64 0])] ++ [(w.heap.size, [.int .i64 a0, .int .i64 a1, .int .i64 b0, .int .i64 b1]), (w.heap.size + 1, [.int .i64 p0, .int .i64 p1])]) W := hC
              refine hK.out _ _ (ms1.out _ (hC.tail)) (fun _ => ?_)
              exact wpAnyH_cast rfl (by kernel_rfl) (by kernel_rfl) (ih ⟨none, some Q, none, 2⟩ _ (by simp only [Option.isSome, Bool.false_eq_true, if_false, if_true]; omega) ⟨by simp, hC⟩)
            refine AllReadyH.cons (o := ⟨some 9, Op.alloc 36, 0, _, _, none⟩) rfl (fun K hK => ?_) (AllReadyH.nil)
            · go_simp
              have hC := (hH.push [.int .i64 0, .int .i64 0] 36)
              change Has w _ (w2.alloc (.cells #[.int .i64 0, .int .i64 0] 36)) at hC
              generalize w2.alloc (.cells #[.int .i64 0, .int .i64 0] 36) = W at *
              generalize w2.heap.size = R at *
              have hC' : Has w ([(R, [.int .i64 0, .int .i64 0])] ++ [(w.heap.size, [.int .i64 a0, .int .i64 a1, .int .i64 b0, .int .i64 b1]), (w.heap.size + 1, [.int .i64 p0, .int .i64 p1])]) W := hC
              refine hK.out _ _ (ms1.out _ (hC.tail)) (fun _ => ?_)
              exact wpAnyH_cast rfl (by kernel_rfl) (by kernel_rfl) (ih ⟨none, none, some R, 2⟩ _ (by simp only [Option.isSome, Bool.false_eq_true, if_false, if_true]; omega) ⟨by simp, hC⟩)
          | some R =>
            simp only [Option.isSome, Bool.false_eq_true, if_false, if_true] at hk
            simp only [putc, putp, Act.put, decide_eq_true_eq, decide_true, decide_false, Nat.le_refl, Nat.reduceLeDiff, List.setIfInBounds_toArray, List.set_cons_zero, List.set_cons_succ]
            refine wpAnyH_listed #[true, true, true, true, true, true, true, true, true, true, true, true, false, false, false, true, false, false, false] (by kernel_rfl) ?_
            refine wpAnyH_ready (rs := [12, 13, 14]) (by kernel_rfl) (by simp) ?_
            refine AllReadyH.cons (o := ⟨some 23, Op.call { callee := Callee.value (Operand.func 40), args := #[Operand.tmp 20, Operand.tmp 22], argTypes := #[36, 36] }, 36, _, _, none⟩) rfl (fun K hK => ?_) (?_)
            · go_simp
              go_at_call 40
              refine (Has.call hH (sub_b SP0_.out SP1_.out SB0_.out SB1_.out x0 x1 H_hx0.out H_hx1.out _)).mono ?_
              rintro e W ⟨rfl, hC⟩
              go_wp2_with fail
              refine hK.out _ _ (ms1.out _ hC.tail) (fun _ => ?_)
              exact wpAnyH_cast rfl (by kernel_rfl) (by kernel_rfl) (ih ⟨none, none, some R, 3⟩ _ (by simp only [Option.isSome, Bool.false_eq_true, if_false, if_true]; omega) ⟨by simp, hC⟩)
            refine AllReadyH.cons (o := ⟨some 7, Op.alloc 36, 0, _, _, none⟩) rfl (fun K hK => ?_) (?_)
            · go_simp
              have hC := (hH.push [.int .i64 0, .int .i64 0] 36)
              change Has w _ (w2.alloc (.cells #[.int .i64 0, .int .i64 0] 36)) at hC
              generalize w2.alloc (.cells #[.int .i64 0, .int .i64 0] 36) = W at *
              generalize w2.heap.size = P at *
              have hC' : Has w ([(P, [.int .i64 0, .int .i64 0]), (R, [.int .i64 0, .int .i64 0])] ++ [(w.heap.size, [.int .i64 a0, .int .i64 a1, .int .i64 b0, .int .i64 b1]), (w.heap.size + 1, [.int .i64 p0, .int .i64 p1])]) W := hC
              refine hK.out _ _ (ms1.out _ (hC.tail.tail)) (fun _ => ?_)
              exact wpAnyH_cast rfl (by kernel_rfl) (by kernel_rfl) (ih ⟨some P, none, some R, 2⟩ _ (by simp only [Option.isSome, Bool.false_eq_true, if_false, if_true]; omega) ⟨by simp, hC⟩)
            refine AllReadyH.cons (o := ⟨some 8, Op.alloc 36, 0, _, _, none⟩) rfl (fun K hK => ?_) (AllReadyH.nil)
            · go_simp
              have hC := (hH.push [.int .i64 0, .int .i64 0] 36)
              change Has w _ (w2.alloc (.cells #[.int .i64 0, .int .i64 0] 36)) at hC
              generalize w2.alloc (.cells #[.int .i64 0, .int .i64 0] 36) = W at *
              generalize w2.heap.size = Q at *
              have hC' : Has w ([(Q, [.int .i64 0, .int .i64 0]), (R, [.int .i64 0, .int .i64 0])] ++ [(w.heap.size, [.int .i64 a0, .int .i64 a1, .int .i64 b0, .int .i64 b1]), (w.heap.size + 1, [.int .i64 p0, .int .i64 p1])]) W := hC
              refine hK.out _ _ (ms1.out _ (hC.tail.tail)) (fun _ => ?_)
              exact wpAnyH_cast rfl (by kernel_rfl) (by kernel_rfl) (ih ⟨none, some Q, some R, 2⟩ _ (by simp only [Option.isSome, Bool.false_eq_true, if_false, if_true]; omega) ⟨by simp, hC⟩)
        | some Q =>
          cases pc with
          | none =>
            simp only [Option.isSome, Bool.false_eq_true, if_false, if_true] at hk
            simp only [putc, putp, Act.put, decide_eq_true_eq, decide_true, decide_false, Nat.le_refl, Nat.reduceLeDiff, List.setIfInBounds_toArray, List.set_cons_zero, List.set_cons_succ]
            refine wpAnyH_listed #[true, true, true, true, true, true, true, true, true, true, true, true, false, false, true, false, false, false, false] (by kernel_rfl) ?_
            refine wpAnyH_ready (rs := [12, 13, 15]) (by kernel_rfl) (by simp) ?_
            refine AllReadyH.cons (o := ⟨some 23, Op.call { callee := Callee.value (Operand.func 40), args := #[Operand.tmp 20, Operand.tmp 22], argTypes := #[36, 36] }, 36, _, _, none⟩) rfl (fun K hK => ?_) (?_)
            · go_simp
              go_at_call 40
              refine (Has.call hH (sub_b SP0_.out SP1_.out SB0_.out SB1_.out x0 x1 H_hx0.out H_hx1.out _)).mono ?_
              rintro e W ⟨rfl, hC⟩
              go_wp2_with fail
              refine hK.out _ _ (ms1.out _ hC.tail) (fun _ => ?_)
              exact wpAnyH_cast rfl (by kernel_rfl) (by kernel_rfl) (ih ⟨none, some Q, none, 3⟩ _ (by simp only [Option.isSome, Bool.false_eq_true, if_false, if_true]; omega) ⟨by simp, hC⟩)
            refine AllReadyH.cons (o := ⟨some 7, Op.alloc 36, 0, _, _, none⟩) rfl (fun K hK => ?_) (?_)
            · go_simp
              have hC := (hH.push [.int .i64 0, .int .i64 0] 36)
              change Has w _ (w2.alloc (.cells #[.int .i64 0, .int .i64 0] 36)) at hC
              generalize w2.alloc (.cells #[.int .i64 0, .int .i64 0] 36) = W at *
              generalize w2.heap.size = P at *
              have hC' : Has w ([(P, [.int .i64 0, .int .i64 0]), (Q, [.int .i64 0, .int .i64 0])] ++ [(w.heap.size, [.int .i64 a0, .int .i64 a1, .int .i64 b0, .int .i64 b1]), (w.heap.size + 1, [.int .i64 p0, .int .i64 p1])]) W := hC
              refine hK.out _ _ (ms1.out _ (hC.tail.tail)) (fun _ => ?_)
              exact wpAnyH_cast rfl (by kernel_rfl) (by kernel_rfl) (ih ⟨some P, some Q, none, 2⟩ _ (by simp only [Option.isSome, Bool.false_eq_true, if_false, if_true]; omega) ⟨by simp, hC⟩)
            refine AllReadyH.cons (o := ⟨some 9, Op.alloc 36, 0, _, _, none⟩) rfl (fun K hK => ?_) (AllReadyH.nil)
            · go_simp
              have hC := (hH.push [.int .i64 0, .int .i64 0] 36).swap
              change Has w _ (w2.alloc (.cells #[.int .i64 0, .int .i64 0] 36)) at hC
              generalize w2.alloc (.cells #[.int .i64 0, .int .i64 0] 36) = W at *
              generalize w2.heap.size = R at *
              have hC' : Has w ([(Q, [.int .i64 0, .int .i64 0]), (R, [.int .i64 0, .int .i64 0])] ++ [(w.heap.size, [.int .i64 a0, .int .i64 a1, .int .i64 b0, .int .i64 b1]), (w.heap.size + 1, [.int .i64 p0, .int .i64 p1])]) W := hC
              refine hK.out _ _ (ms1.out _ (hC.tail.tail)) (fun _ => ?_)
              exact wpAnyH_cast rfl (by kernel_rfl) (by kernel_rfl) (ih ⟨none, some Q, some R, 2⟩ _ (by simp only [Option.isSome, Bool.false_eq_true, if_false, if_true]; omega) ⟨by simp, hC⟩)
          | some R =>
            simp only [Option.isSome, Bool.false_eq_true, if_false, if_true] at hk
            simp only [putc, putp, Act.put, decide_eq_true_eq, decide_true, decide_false, Nat.le_refl, Nat.reduceLeDiff, List.setIfInBounds_toArray, List.set_cons_zero, List.set_cons_succ]
            refine wpAnyH_listed #[true, true, true, true, true, true, true, true, true, true, true, true, false, false, true, true, false, false, false] (by kernel_rfl) ?_
            refine wpAnyH_ready (rs := [12, 13]) (by kernel_rfl) (by simp) ?_
            refine AllReadyH.cons (o := ⟨some 23, Op.call { callee := Callee.value (Operand.func 40), args := #[Operand.tmp 20, Operand.tmp 22], argTypes := #[36, 36] }, 36, _, _, none⟩) rfl (fun K hK => ?_) (?_)
            · go_simp
              go_at_call 40
              refine (Has.call hH (sub_b SP0_.out SP1_.out SB0_.out SB1_.out x0 x1 H_hx0.out H_hx1.out _)).mono ?_
              rintro e W ⟨rfl, hC⟩
              go_wp2_with fail
              refine hK.out _ _ (ms1.out _ hC.tail.tail) (fun _ => ?_)
              exact wpAnyH_cast rfl (by kernel_rfl) (by kernel_rfl) (ih ⟨none, some Q, some R, 3⟩ _ (by simp only [Option.isSome, Bool.false_eq_true, if_false, if_true]; omega) ⟨by simp, hC⟩)
            refine AllReadyH.cons (o := ⟨some 7, Op.alloc 36, 0, _, _, none⟩) rfl (fun K hK => ?_) (AllReadyH.nil)
            · go_simp
              have hC := (hH.push [.int .i64 0, .int .i64 0] 36)
              change Has w _ (w2.alloc (.cells #[.int .i64 0, .int .i64 0] 36)) at hC
              generalize w2.alloc (.cells #[.int .i64 0, .int .i64 0] 36) = W at *
              generalize w2.heap.size = P at *
              have hC' : Has w ([(P, [.int .i64 0, .int .i64 0]), (Q, [.int .i64 0, .int .i64 0]), (R, [.int .i64 0, .int .i64 0])] ++ [(w.heap.size, [.int .i64 a0, .int .i64 a1, .int .i64 b0, .int .i64 b1]), (w.heap.size + 1, [.int .i64 p0, .int .i64 p1])]) W := hC
              refine hK.out _ _ (ms1.out _ (hC.tail.tail.tail)) (fun _ => ?_)
              exact wpAnyH_cast rfl (by kernel_rfl) (by kernel_rfl) (ih ⟨some P, some Q, some R, 2⟩ _ (by simp only [Option.isSome, Bool.false_eq_true, if_false, if_true]; omega) ⟨by simp, hC⟩)
      | some P =>
        cases pb with
        | none =>
          cases pc with
          | none =>
            simp only [Option.isSome, Bool.false_eq_true, if_false, if_true] at hk
            simp only [putc, putp, Act.put, decide_eq_true_eq, decide_true, decide_false, Nat.le_refl, Nat.reduceLeDiff, List.setIfInBounds_toArray, List.set_cons_zero, List.set_cons_succ]
            refine wpAnyH_listed #[true, true, true, true, true, true, true, true, true, true, true, true, false, true, false, false, false, false, false] (by kernel_rfl) ?_
            refine wpAnyH_ready (rs := [12, 14, 15]) (by kernel_rfl) (by simp) ?_
            refine AllReadyH.cons (o := ⟨some 23, Op.call { callee := Callee.value (Operand.func 40), args := #[Operand.tmp 20, Operand.tmp 22], argTypes := #[36, 36] }, 36, _, _, none⟩) rfl (fun K hK => ?_) (?_)
            · go_simp
              go_at_call 40
              refine (Has.call hH (sub_b SP0_.out SP1_.out SB0_.out SB1_.out x0 x1 H_hx0.out H_hx1.out _)).mono ?_
              rintro e W ⟨rfl, hC⟩
              go_wp2_with fail
              refine hK.out _ _ (ms1.out _ hC.tail) (fun _ => ?_)
              exact wpAnyH_cast rfl (by kernel_rfl) (by kernel_rfl) (ih ⟨some P, none, none, 3⟩ _ (by simp only [Option.isSome, Bool.false_eq_true, if_false, if_true]; omega) ⟨by simp, hC⟩)
            refine AllReadyH.cons (o := ⟨some 8, Op.alloc 36, 0, _, _, none⟩) rfl (fun K hK => ?_) (?_)
            · go_simp
              have hC := (hH.push [.int .i64 0, .int .i64 0] 36).swap
              change Has w _ (w2.alloc (.cells #[.int .i64 0, .int .i64 0] 36)) at hC
              generalize w2.alloc (.cells #[.int .i64 0, .int .i64 0] 36) = W at *
              generalize w2.heap.size = Q at *
              have hC' : Has w ([(P, [.int .i64 0, .int .i64 0]), (Q, [.int .i64 0, .int .i64 0])] ++ [(w.heap.size, [.int .i64 a0, .int .i64 a1, .int .i64 b0, .int .i64 b1]), (w.heap.size + 1, [.int .i64 p0, .int .i64 p1])]) W := hC
              refine hK.out _ _ (ms1.out _ (hC.tail.tail)) (fun _ => ?_)
              exact wpAnyH_cast rfl (by kernel_rfl) (by kernel_rfl) (ih ⟨some P, some Q, none, 2⟩ _ (by simp only [Option.isSome, Bool.false_eq_true, if_false, if_true]; omega) ⟨by simp, hC⟩)
            refine AllReadyH.cons (o := ⟨some 9, Op.alloc 36, 0, _, _, none⟩) rfl (fun K hK => ?_) (AllReadyH.nil)
            · go_simp
              have hC := (hH.push [.int .i64 0, .int .i64 0] 36).swap
              change Has w _ (w2.alloc (.cells #[.int .i64 0, .int .i64 0] 36)) at hC
              generalize w2.alloc (.cells #[.int .i64 0, .int .i64 0] 36) = W at *
              generalize w2.heap.size = R at *
              have hC' : Has w ([(P, [.int .i64 0, .int .i64 0]), (R, [.int .i64 0, .int .i64 0])] ++ [(w.heap.size, [.int .i64 a0, .int .i64 a1, .int .i64 b0, .int .i64 b1]), (w.heap.size + 1, [.int .i64 p0, .int .i64 p1])]) W := hC
              refine hK.out _ _ (ms1.out _ (hC.tail.tail)) (fun _ => ?_)
              exact wpAnyH_cast rfl (by kernel_rfl) (by kernel_rfl) (ih ⟨some P, none, some R, 2⟩ _ (by simp only [Option.isSome, Bool.false_eq_true, if_false, if_true]; omega) ⟨by simp, hC⟩)
          | some R =>
            simp only [Option.isSome, Bool.false_eq_true, if_false, if_true] at hk
            simp only [putc, putp, Act.put, decide_eq_true_eq, decide_true, decide_false, Nat.le_refl, Nat.reduceLeDiff, List.setIfInBounds_toArray, List.set_cons_zero, List.set_cons_succ]
            refine wpAnyH_listed #[true, true, true, true, true, true, true, true, true, true, true, true, false, true, false, true, false, false, false] (by kernel_rfl) ?_
            refine wpAnyH_ready (rs := [12, 14]) (by kernel_rfl) (by simp) ?_
            refine AllReadyH.cons (o := ⟨some 23, Op.call { callee := Callee.value (Operand.func 40), args := #[Operand.tmp 20, Operand.tmp 22], argTypes := #[36, 36] }, 36, _, _, none⟩) rfl (fun K hK => ?_) (?_)
            · go_simp
              go_at_call 40
              refine (Has.call hH (sub_b SP0_.out SP1_.out SB0_.out SB1_.out x0 x1 H_hx0.out H_hx1.out _)).mono ?_
              rintro e W ⟨rfl, hC⟩
              go_wp2_with fail
              refine hK.out _ _ (ms1.out _ hC.tail.tail) (fun _ => ?_)
              exact wpAnyH_cast rfl (by kernel_rfl) (by kernel_rfl) (ih ⟨some P, none, some R, 3⟩ _ (by simp only [Option.isSome, Bool.false_eq_true, if_false, if_true]; omega) ⟨by simp, hC⟩)
            refine AllReadyH.cons (o := ⟨some 8, Op.alloc 36, 0, _, _, none⟩) rfl (fun K hK => ?_) (AllReadyH.nil)
            · go_simp
              have hC := (hH.push [.int .i64 0, .int .i64 0] 36).swap
              change Has w _ (w2.alloc (.cells #[.int .i64 0, .int .i64 0] 36)) at hC
              generalize w2.alloc (.cells #[.int .i64 0, .int .i64 0] 36) = W at *
              generalize w2.heap.size = Q at *
              have hC' : Has w ([(P, [.int .i64 0, .int .i64 0]), (Q, [.int .i64 0, .int .i64 0]), (R, [.int .i64 0, .int .i64 0])] ++ [(w.heap.size, [.int .i64 a0, .int .i64 a1, .int .i64 b0, .int .i64 b1]), (w.heap.size + 1, [.int .i64 p0, .int .i64 p1])]) W := hC
              refine hK.out _ _ (ms1.out _ (hC.tail.tail.tail)) (fun _ => ?_)
              exact wpAnyH_cast rfl (by kernel_rfl) (by kernel_rfl) (ih ⟨some P, some Q, some R, 2⟩ _ (by simp only [Option.isSome, Bool.false_eq_true, if_false, if_true]; omega) ⟨by simp, hC⟩)
        | some Q =>
          cases pc with
          | none =>
            simp only [Option.isSome, Bool.false_eq_true, if_false, if_true] at hk
            simp only [putc, putp, Act.put, decide_eq_true_eq, decide_true, decide_false, Nat.le_refl, Nat.reduceLeDiff, List.setIfInBounds_toArray, List.set_cons_zero, List.set_cons_succ]
            refine wpAnyH_listed #[true, true, true, true, true, true, true, true, true, true, true, true, false, true, true, false, false, false, false] (by kernel_rfl) ?_
            refine wpAnyH_ready (rs := [12, 15]) (by kernel_rfl) (by simp) ?_
            refine AllReadyH.cons (o := ⟨some 23, Op.call { callee := Callee.value (Operand.func 40), args := #[Operand.tmp 20, Operand.tmp 22], argTypes := #[36, 36] }, 36, _, _, none⟩) rfl (fun K hK => ?_) (?_)
            · go_simp
              go_at_call 40
              refine (Has.call hH (sub_b SP0_.out SP1_.out SB0_.out SB1_.out x0 x1 H_hx0.out H_hx1.out _)).mono ?_
              rintro e W ⟨rfl, hC⟩
              go_wp2_with fail
              refine hK.out _ _ (ms1.out _ hC.tail.tail) (fun _ => ?_)
              exact wpAnyH_cast rfl (by kernel_rfl) (by kernel_rfl) (ih ⟨some P, some Q, none, 3⟩ _ (by simp only [Option.isSome, Bool.false_eq_true, if_false, if_true]; omega) ⟨by simp, hC⟩)
            refine AllReadyH.cons (o := ⟨some 9, Op.alloc 36, 0, _, _, none⟩) rfl (fun K hK => ?_) (AllReadyH.nil)
            · go_simp
              have hC := (hH.push [.int .i64 0, .int .i64 0] 36).third.third
              change Has w _ (w2.alloc (.cells #[.int .i64 0, .int .i64 0] 36)) at hC
              generalize w2.alloc (.cells #[.int .i64 0, .int .i64 0] 36) = W at *
              generalize w2.heap.size = R at *
              have hC' : Has w ([(P, [.int .i64 0, .int .i64 0]), (Q, [.int .i64 0, .int .i64 0]), (R, [.int .i64 0, .int .i64 0])] ++ [(w.heap.size, [.int .i64 a0, .int .i64 a1, .int .i64 b0, .int .i64 b1]), (w.heap.size + 1, [.int .i64 p0, .int .i64 p1])]) W := hC
              refine hK.out _ _ (ms1.out _ (hC.tail.tail.tail)) (fun _ => ?_)
              exact wpAnyH_cast rfl (by kernel_rfl) (by kernel_rfl) (ih ⟨some P, some Q, some R, 2⟩ _ (by simp only [Option.isSome, Bool.false_eq_true, if_false, if_true]; omega) ⟨by simp, hC⟩)
          | some R =>
            simp only [Option.isSome, Bool.false_eq_true, if_false, if_true] at hk
            simp only [putc, putp, Act.put, decide_eq_true_eq, decide_true, decide_false, Nat.le_refl, Nat.reduceLeDiff, List.setIfInBounds_toArray, List.set_cons_zero, List.set_cons_succ]
            refine wpAnyH_listed #[true, true, true, true, true, true, true, true, true, true, true, true, false, true, true, true, false, false, false] (by kernel_rfl) ?_
            refine wpAnyH_ready (rs := [12]) (by kernel_rfl) (by simp) ?_
            refine AllReadyH.cons (o := ⟨some 23, Op.call { callee := Callee.value (Operand.func 40), args := #[Operand.tmp 20, Operand.tmp 22], argTypes := #[36, 36] }, 36, _, _, none⟩) rfl (fun K hK => ?_) (AllReadyH.nil)
            · go_simp
              go_at_call 40
              refine (Has.call hH (sub_b SP0_.out SP1_.out SB0_.out SB1_.out x0 x1 H_hx0.out H_hx1.out _)).mono ?_
              rintro e W ⟨rfl, hC⟩
              go_wp2_with fail
              refine hK.out _ _ (ms1.out _ hC.tail.tail.tail) (fun _ => ?_)
              exact wpAnyH_cast rfl (by kernel_rfl) (by kernel_rfl) (ih ⟨some P, some Q, some R, 3⟩ _ (by simp only [Option.isSome, Bool.false_eq_true, if_false, if_true]; omega) ⟨by simp, hC⟩)
    · cases pa with
      | none =>
        cases pb with
        | none =>
          cases pc with
          | none =>
            simp only [Option.isSome, Bool.false_eq_true, if_false, if_true] at hk
            simp only [putc, putp, Act.put, decide_eq_true_eq, decide_true, decide_false, Nat.le_refl, Nat.reduceLeDiff, List.setIfInBounds_toArray, List.set_cons_zero, List.set_cons_succ]
            refine wpAnyH_listed #[true, true, true, true, true, true, true, true, true, true, true, true, true, false, false, false, false, false, false] (by kernel_rfl) ?_
            refine wpAnyH_ready (rs := [13, 14, 15]) (by kernel_rfl) (by simp) ?_
            refine AllReadyH.cons (o := ⟨some 7, Op.alloc 36, 0, _, _, none⟩) rfl (fun K hK => ?_) (?_)
            · go_simp
              have hC := (hH.push [.int .i64 0, .int .i64 0] 36)
              change Has w _ (w2.alloc (.cells #[.int .i64 0, .int .i64 0] 36)) at hC
              generalize w2.alloc (.cells #[.int .i64 0, .int .i64 0] 36) = W at *
              generalize w2.heap.size = P at *
              have hC' : Has w ([(P, [.int .i64 0, .int .i64 0])] ++ [(w.heap.size, [.int .i64 a0, .int .i64 a1, .int .i64 b0, .int .i64 b1]), (w.heap.size + 1, [.int .i64 p0, .int .i64 p1])]) W := hC
              refine hK.out _ _ (ms1.out _ (hC.tail)) (fun _ => ?_)
              exact wpAnyH_cast rfl (by kernel_rfl) (by kernel_rfl) (ih ⟨some P, none, none, 3⟩ _ (by simp only [Option.isSome, Bool.false_eq_true, if_false, if_true]; omega) ⟨by simp, hC⟩)
            refine AllReadyH.cons (o := ⟨some 8, Op.alloc 36, 0, _, _, none⟩) rfl (fun K hK => ?_) (?_)
            · go_simp
              have hC := (hH.push [.int .i64 0, .int .i64 0] 36)
              change Has w _ (w2.alloc (.cells #[.int .i64 0, .int .i64 0] 36)) at hC
              generalize w2.alloc (.cells #[.int .i64 0, .int .i64 0] 36) = W at *
              generalize w2.heap.size = Q at *
              have hC' : Has w ([(Q, [.int .i64 0, .int .i64 0])] ++ [(w.heap.size, [.int .i64 a0, .int .i64 a1, .int .i64 b0, .int .i64 b1]), (w.heap.size + 1, [.int .i64 p0, .int .i64 p1])]) W := hC
              refine hK.out _ _ (ms1.out _ (hC.tail)) (fun _ => ?_)
              exact wpAnyH_cast rfl (by kernel_rfl) (by kernel_rfl) (ih ⟨none, some Q, none, 3⟩ _ (by simp only [Option.isSome, Bool.false_eq_true, if_false, if_true]; omega) ⟨by simp, hC⟩)
            refine AllReadyH.cons (o := ⟨some 9, Op.alloc 36, 0, _, _, none⟩) rfl (fun K hK => ?_) (AllReadyH.nil)
            · go_simp
              have hC := (hH.push [.int .i64 0, .int .i64 0] 36)
              change Has w _ (w2.alloc (.cells #[.int .i64 0, .int .i64 0] 36)) at hC
              generalize w2.alloc (.cells #[.int .i64 0, .int .i64 0] 36) = W at *
              generalize w2.heap.size = R at *
              have hC' : Has w ([(R, [.int .i64 0, .int .i64 0])] ++ [(w.heap.size, [.int .i64 a0, .int .i64 a1, .int .i64 b0, .int .i64 b1]), (w.heap.size + 1, [.int .i64 p0, .int .i64 p1])]) W := hC
              refine hK.out _ _ (ms1.out _ (hC.tail)) (fun _ => ?_)
              exact wpAnyH_cast rfl (by kernel_rfl) (by kernel_rfl) (ih ⟨none, none, some R, 3⟩ _ (by simp only [Option.isSome, Bool.false_eq_true, if_false, if_true]; omega) ⟨by simp, hC⟩)
          | some R =>
            simp only [Option.isSome, Bool.false_eq_true, if_false, if_true] at hk
            simp only [putc, putp, Act.put, decide_eq_true_eq, decide_true, decide_false, Nat.le_refl, Nat.reduceLeDiff, List.setIfInBounds_toArray, List.set_cons_zero, List.set_cons_succ]
            refine wpAnyH_listed #[true, true, true, true, true, true, true, true, true, true, true, true, true, false, false, true, false, false, false] (by kernel_rfl) ?_
            refine wpAnyH_ready (rs := [13, 14]) (by kernel_rfl) (by simp) ?_
            refine AllReadyH.cons (o := ⟨some 7, Op.alloc 36, 0, _, _, none⟩) rfl (fun K hK => ?_) (?_)
            · go_simp
              have hC := (hH.push [.int .i64 0, .int .i64 0] 36)
              change Has w _ (w2.alloc (.cells #[.int .i64 0, .int .i64 0] 36)) at hC
              generalize w2.alloc (.cells #[.int .i64 0, .int .i64 0] 36) = W at *
              generalize w2.heap.size = P at *
              have hC' : Has w ([(P, [.int .i64 0, .int .i64 0]), (R, [.int .i64 0, .int .i64 0])] ++ [(w.heap.size, [.int .i64 a0, .int .i64 a1, .int .i64 b0, .int .i64 b1]), (w.heap.size + 1, [.int .i64 p0, .int .i64 p1])]) W := hC
              refine hK.out _ _ (ms1.out _ (hC.tail.tail)) (fun _ => ?_)
              exact wpAnyH_cast rfl (by kernel_rfl) (by kernel_rfl) (ih ⟨some P, none, some R, 3⟩ _ (by simp only [Option.isSome, Bool.false_eq_true, if_false, if_true]; omega) ⟨by simp, hC⟩)
            refine AllReadyH.cons (o := ⟨some 8, Op.alloc 36, 0, _, _, none⟩) rfl (fun K hK => ?_) (AllReadyH.nil)
            · go_simp
              have hC := (hH.push [.int .i64 0, .int .i64 0] 36)
              change Has w _ (w2.alloc (.cells #[.int .i64 0, .int .i64 0] 36)) at hC
              generalize w2.alloc (.cells #[.int .i64 0, .int .i64 0] 36) = W at *
              generalize w2.heap.size = Q at *
              have hC' : Has w ([(Q, [.int .i64 0, .int .i64 0]), (R, [.int .i64 0, .int .i64 0])] ++ [(w.heap.size, [.int .i64 a0, .int .i64 a1, .int .i64 b0, .int .i64 b1]), (w.heap.size + 1, [.int .i64 p0, .int .i64 p1])]) W := hC
              refine hK.out _ _ (ms1.out _ (hC.tail.tail)) (fun _ => ?_)
              exact wpAnyH_cast rfl (by kernel_rfl) (by kernel_rfl) (ih ⟨none, some Q, some R, 3⟩ _ (by simp only [Option.isSome, Bool.false_eq_true, if_false, if_true]; omega) ⟨by simp, hC⟩)
        | some Q =>
          cases pc with
          | none =>
            simp only [Option.isSome, Bool.false_eq_true, if_false, if_true] at hk
            simp only [putc, putp, Act.put, decide_eq_true_eq, decide_true, decide_false, Nat.le_refl, Nat.reduceLeDiff, List.setIfInBounds_toArray, List.set_cons_zero, List.set_cons_succ]
            refine wpAnyH_listed #[true, true, true, true, true, true, true, true, true, true, true, true, true, false, true, false, false, false, false] (by kernel_rfl) ?_
            refine wpAnyH_ready (rs := [13, 15]) (by kernel_rfl) (by simp) ?_
            refine AllReadyH.cons (o := ⟨some 7, Op.alloc 36, 0, _, _, none⟩) rfl (fun K hK => ?_) (?_)
            · go_simp
              have hC := (hH.push [.int .i64 0, .int .i64 0] 36)
              change Has w _ (w2.alloc (.cells #[.int .i64 0, .int .i64 0] 36)) at hC
              generalize w2.alloc (.cells #[.int .i64 0, .int .i64 0] 36) = W at *
              generalize w2.heap.size = P at *
              have hC' : Has w ([(P, [.int .i64 0, .int .i64 0]), (Q, [.int .i64 0, .int .i64 0])] ++ [(w.heap.size, [.int .i64 a0, .int .i64 a1, .int .i64 b0, .int .i64 b1]), (w.heap.size + 1, [.int .i64 p0, .int .i64 p1])]) W := hC
              refine hK.out _ _ (ms1.out _ (hC.tail.tail)) (fun _ => ?_)
              exact wpAnyH_cast rfl (by kernel_rfl) (by kernel_rfl) (ih ⟨some P, some Q, none, 3⟩ _ (by simp only [Option.isSome, Bool.false_eq_true, if_false, if_true]; omega) ⟨by simp, hC⟩)
            refine AllReadyH.cons (o := ⟨some 9, Op.alloc 36, 0, _, _, none⟩) rfl (fun K hK => ?_) (AllReadyH.nil)
            · go_simp
              have hC := (hH.push [.int .i64 0, .int .i64 0] 36).swap
              change Has w _ (w2.alloc (.cells #[.int .i64 0, .int .i64 0] 36)) at hC
              generalize w2.alloc (.cells #[.int .i64 0, .int .i64 0] 36) = W at *
              generalize w2.heap.size = R at *
              have hC' : Has w ([(Q, [.int .i64 0, .int .i64 0]), (R, [.int .i64 0, .int .i64 0])] ++ [(w.heap.size, [.int .i64 a0, .int .i64 a1, .int .i64 b0, .int .i64 b1]), (w.heap.size + 1, [.int .i64 p0, .int .i64 p1])]) W := hC
              refine hK.out _ _ (ms1.out _ (hC.tail.tail)) (fun _ => ?_)
              exact wpAnyH_cast rfl (by kernel_rfl) (by kernel_rfl) (ih ⟨none, some Q, some R, 3⟩ _ (by simp only [Option.isSome, Bool.false_eq_true, if_false, if_true]; omega) ⟨by simp, hC⟩)
          | some R =>
            simp only [Option.isSome, Bool.false_eq_true, if_false, if_true] at hk
            simp only [putc, putp, Act.put, decide_eq_true_eq, decide_true, decide_false, Nat.le_refl, Nat.reduceLeDiff, List.setIfInBounds_toArray, List.set_cons_zero, List.set_cons_succ]
            refine wpAnyH_listed #[true, true, true, true, true, true, true, true, true, true, true, true, true, false, true, true, false, false, false] (by kernel_rfl) ?_
            refine wpAnyH_ready (rs := [13]) (by kernel_rfl) (by simp) ?_
            refine AllReadyH.cons (o := ⟨some 7, Op.alloc 36, 0, _, _, none⟩) rfl (fun K hK => ?_) (AllReadyH.nil)
            · go_simp
              have hC := (hH.push [.int .i64 0, .int .i64 0] 36)
              change Has w _ (w2.alloc (.cells #[.int .i64 0, .int .i64 0] 36)) at hC
              generalize w2.alloc (.cells #[.int .i64 0, .int .i64 0] 36) = W at *
              generalize w2.heap.size = P at *
              have hC' : Has w ([(P, [.int .i64 0, .int .i64 0]), (Q, [.int .i64 0, .int .i64 0]), (R, [.int .i64 0, .int .i64 0])] ++ [(w.heap.size, [.int .i64 a0, .int .i64 a1, .int .i64 b0, .int .i64 b1]), (w.heap.size + 1, [.int .i64 p0, .int .i64 p1])]) W := hC
              refine hK.out _ _ (ms1.out _ (hC.tail.tail.tail)) (fun _ => ?_)
              exact wpAnyH_cast rfl (by kernel_rfl) (by kernel_rfl) (ih ⟨some P, some Q, some R, 3⟩ _ (by simp only [Option.isSome, Bool.false_eq_true, if_false, if_true]; omega) ⟨by simp, hC⟩)
      | some P =>
        cases pb with
        | none =>
          cases pc with
          | none =>
            simp only [Option.isSome, Bool.false_eq_true, if_false, if_true] at hk
            simp only [putc, putp, Act.put, decide_eq_true_eq, decide_true, decide_false, Nat.le_refl, Nat.reduceLeDiff, List.setIfInBounds_toArray, List.set_cons_zero, List.set_cons_succ]
            refine wpAnyH_listed #[true, true, true, true, true, true, true, true, true, true, true, true, true, true, false, false, false, false, false] (by kernel_rfl) ?_
            refine wpAnyH_ready (rs := [14, 15]) (by kernel_rfl) (by simp) ?_
            refine AllReadyH.cons (o := ⟨some 8, Op.alloc 36, 0, _, _, none⟩) rfl (fun K hK => ?_) (?_)
            · go_simp
              have hC := (hH.push [.int .i64 0, .int .i64 0] 36).swap
              change Has w _ (w2.alloc (.cells #[.int .i64 0, .int .i64 0] 36)) at hC
              generalize w2.alloc (.cells #[.int .i64 0, .int .i64 0] 36) = W at *
              generalize w2.heap.size = Q at *
              have hC' : Has w ([(P, [.int .i64 0, .int .i64 0]), (Q, [.int .i64 0, .int .i64 0])] ++ [(w.heap.size, [.int .i64 a0, .int .i64 a1, .int .i64 b0, .int .i64 b1]), (w.heap.size + 1, [.int .i64 p0, .int .i64 p1])]) W := hC
              refine hK.out _ _ (ms1.out _ (hC.tail.tail)) (fun _ => ?_)
              exact wpAnyH_cast rfl (by kernel_rfl) (by kernel_rfl) (ih ⟨some P, some Q, none, 3⟩ _ (by simp only [Option.isSome, Bool.false_eq_true, if_false, if_true]; omega) ⟨by simp, hC⟩)
            refine AllReadyH.cons (o := ⟨some 9, Op.alloc 36, 0, _, _, none⟩) rfl (fun K hK => ?_) (AllReadyH.nil)
            · go_simp
              have hC := (hH.push [.int .i64 0, .int .i64 0] 36).swap
              change Has w _ (w2.alloc (.cells #[.int .i64 0, .int .i64 0] 36)) at hC
              generalize w2.alloc (.cells #[.int .i64 0, .int .i64 0] 36) = W at *
              generalize w2.heap.size = R at *
              have hC' : Has w ([(P, [.int .i64 0, .int .i64 0]), (R, [.int .i64 0, .int .i64 0])] ++ [(w.heap.size, [.int .i64 a0, .int .i64 a1, .int .i64 b0, .int .i64 b1]), (w.heap.size + 1, [.int .i64 p0, .int .i64 p1])]) W := hC
              refine hK.out _ _ (ms1.out _ (hC.tail.tail)) (fun _ => ?_)
              exact wpAnyH_cast rfl (by kernel_rfl) (by kernel_rfl) (ih ⟨some P, none, some R, 3⟩ _ (by simp only [Option.isSome, Bool.false_eq_true, if_false, if_true]; omega) ⟨by simp, hC⟩)
          | some R =>
            simp only [Option.isSome, Bool.false_eq_true, if_false, if_true] at hk
            simp only [putc, putp, Act.put, decide_eq_true_eq, decide_true, decide_false, Nat.le_refl, Nat.reduceLeDiff, List.setIfInBounds_toArray, List.set_cons_zero, List.set_cons_succ]
            refine wpAnyH_listed #[true, true, true, true, true, true, true, true, true, true, true, true, true, true, false, true, false, false, false] (by kernel_rfl) ?_
            refine wpAnyH_ready (rs := [14]) (by kernel_rfl) (by simp) ?_
            refine AllReadyH.cons (o := ⟨some 8, Op.alloc 36, 0, _, _, none⟩) rfl (fun K hK => ?_) (AllReadyH.nil)
            · go_simp
              have hC := (hH.push [.int .i64 0, .int .i64 0] 36).swap
              change Has w _ (w2.alloc (.cells #[.int .i64 0, .int .i64 0] 36)) at hC
              generalize w2.alloc (.cells #[.int .i64 0, .int .i64 0] 36) = W at *
              generalize w2.heap.size = Q at *
              have hC' : Has w ([(P, [.int .i64 0, .int .i64 0]), (Q, [.int .i64 0, .int .i64 0]), (R, [.int .i64 0, .int .i64 0])] ++ [(w.heap.size, [.int .i64 a0, .int .i64 a1, .int .i64 b0, .int .i64 b1]), (w.heap.size + 1, [.int .i64 p0, .int .i64 p1])]) W := hC
              refine hK.out _ _ (ms1.out _ (hC.tail.tail.tail)) (fun _ => ?_)
              exact wpAnyH_cast rfl (by kernel_rfl) (by kernel_rfl) (ih ⟨some P, some Q, some R, 3⟩ _ (by simp only [Option.isSome, Bool.false_eq_true, if_false, if_true]; omega) ⟨by simp, hC⟩)
        | some Q =>
          cases pc with
          | none =>
            simp only [Option.isSome, Bool.false_eq_true, if_false, if_true] at hk
            simp only [putc, putp, Act.put, decide_eq_true_eq, decide_true, decide_false, Nat.le_refl, Nat.reduceLeDiff, List.setIfInBounds_toArray, List.set_cons_zero, List.set_cons_succ]
            refine wpAnyH_listed #[true, true, true, true, true, true, true, true, true, true, true, true, true, true, true, false, false, false, false] (by kernel_rfl) ?_
            refine wpAnyH_ready (rs := [15]) (by kernel_rfl) (by simp) ?_
            refine AllReadyH.cons (o := ⟨some 9, Op.alloc 36, 0, _, _, none⟩) rfl (fun K hK => ?_) (AllReadyH.nil)
            · go_simp
              have hC := (hH.push [.int .i64 0, .int .i64 0] 36).third.third
              change Has w _ (w2.alloc (.cells #[.int .i64 0, .int .i64 0] 36)) at hC
              generalize w2.alloc (.cells #[.int .i64 0, .int .i64 0] 36) = W at *
              generalize w2.heap.size = R at *
              have hC' : Has w ([(P, [.int .i64 0, .int .i64 0]), (Q, [.int .i64 0, .int .i64 0]), (R, [.int .i64 0, .int .i64 0])] ++ [(w.heap.size, [.int .i64 a0, .int .i64 a1, .int .i64 b0, .int .i64 b1]), (w.heap.size + 1, [.int .i64 p0, .int .i64 p1])]) W := hC
              refine hK.out _ _ (ms1.out _ (hC.tail.tail.tail)) (fun _ => ?_)
              exact wpAnyH_cast rfl (by kernel_rfl) (by kernel_rfl) (ih ⟨some P, some Q, some R, 3⟩ _ (by simp only [Option.isSome, Bool.false_eq_true, if_false, if_true]; omega) ⟨by simp, hC⟩)
          | some R =>
            exact absurd hk (by simp)
  rintro ⟨pa, pb, pc, c⟩ w2 hk ⟨hc, hH⟩
  obtain ⟨P, Q, R, rfl, rfl, rfl, rfl⟩ : ∃ P Q R, pa = some P ∧ pb = some Q ∧ pc = some R ∧ c = 3 := by
    cases pa <;> cases pb <;> cases pc <;> simp only [Option.isSome, Bool.false_eq_true, if_false, if_true] at hk <;> simp only at hc <;> first | exact ⟨_, _, _, rfl, rfl, rfl, by omega⟩ | omega
  simp only [putc, putp, Act.put, decide_eq_true_eq, decide_true, decide_false, Nat.le_refl, Nat.reduceLeDiff, List.setIfInBounds_toArray, List.set_cons_zero, List.set_cons_succ]
  have XA := hH
  change Has w [(P, [.int .i64 0, .int .i64 0]), (Q, [.int .i64 0, .int .i64 0]), (R, [.int .i64 0, .int .i64 0]), (w.heap.size, [.int .i64 a0, .int .i64 a1, .int .i64 b0, .int .i64 b1]), (w.heap.size + 1, [.int .i64 p0, .int .i64 p1])] w2 at XA
  clear hH hk hc
  refine wpAnyH_listed #[true, true, true, true, true, true, true, true, true, true, true, true, true, true, true, true, false, false, false] (by kernel_rfl) ?_
  refine wpAnyH_ready (rs := [16]) (by kernel_rfl) (by simp) ?_
  refine AllReadyH.cons (o := ⟨none, Op.store 36 (Operand.tmp 7) (Operand.tmp 15), 0, _, _, none⟩) rfl (fun K hK => ?_) AllReadyH.nil
  have k0 := XA.fact (.head _) (i := 0) rfl
  have k1 := XA.fact (.head _) (i := 1) rfl
  have f0 := XA.free (.head _) (i := 0) rfl
  have f1 := XA.free (.head _) (i := 1) rfl
  go_simp
  have XA0 : Has w [(P, [.int .i64 u0, .int .i64 u1]), (Q, [.int .i64 0, .int .i64 0]), (R, [.int .i64 0, .int .i64 0]), (w.heap.size, [.int .i64 a0, .int .i64 a1, .int .i64 b0, .int .i64 b1]), (w.heap.size + 1, [.int .i64 p0, .int .i64 p1])] (World.setCell (World.setCell w2 ⟨P, 0, none⟩ (.int .i64 u0)) ⟨P, 1, none⟩ (.int .i64 u1)) := (XA.set2 (.int .i64 u0) (.int .i64 u1))
  generalize (World.setCell (World.setCell w2 ⟨P, 0, none⟩ (.int .i64 u0)) ⟨P, 1, none⟩ (.int .i64 u1)) = wA0 at *
  clear k0 f0 k1 f1 XA
  clear hHeld
  refine hK.out _ _ (ms1.out _ XA0.tail.tail.tail) (fun hHeld => ?_)
  clear hK K
  try simp only [List.setIfInBounds_toArray, List.set_cons_zero, List.set_cons_succ]
  refine wpAnyH_listed #[true, true, true, true, true, true, true, true, true, true, true, true, true, true, true, true, true, false, false] (by kernel_rfl) ?_
  refine wpAnyH_ready (rs := [17]) (by kernel_rfl) (by simp) ?_
  refine AllReadyH.cons (o := ⟨none, Op.store 36 (Operand.tmp 8) (Operand.tmp 19), 0, _, _, none⟩) rfl (fun K hK => ?_) AllReadyH.nil
  have k0 := XA0.tail.fact (.head _) (i := 0) rfl
  have k1 := XA0.tail.fact (.head _) (i := 1) rfl
  have f0 := XA0.tail.free (.head _) (i := 0) rfl
  have f1 := XA0.tail.free (.head _) (i := 1) rfl
  go_simp
  have XA1 : Has w [(P, [.int .i64 u0, .int .i64 u1]), (Q, [.int .i64 v0, .int .i64 v1]), (R, [.int .i64 0, .int .i64 0]), (w.heap.size, [.int .i64 a0, .int .i64 a1, .int .i64 b0, .int .i64 b1]), (w.heap.size + 1, [.int .i64 p0, .int .i64 p1])] (World.setCell (World.setCell wA0 ⟨Q, 0, none⟩ (.int .i64 v0)) ⟨Q, 1, none⟩ (.int .i64 v1)) := (XA0.swap.set2 (.int .i64 v0) (.int .i64 v1)).swap
  generalize (World.setCell (World.setCell wA0 ⟨Q, 0, none⟩ (.int .i64 v0)) ⟨Q, 1, none⟩ (.int .i64 v1)) = wA1 at *
  clear k0 f0 k1 f1 XA0
  clear hHeld
  refine hK.out _ _ (ms1.out _ XA1.tail.tail.tail) (fun hHeld => ?_)
  clear hK K
  try simp only [List.setIfInBounds_toArray, List.set_cons_zero, List.set_cons_succ]
  refine wpAnyH_listed #[true, true, true, true, true, true, true, true, true, true, true, true, true, true, true, true, true, true, false] (by kernel_rfl) ?_
  refine wpAnyH_ready (rs := [18]) (by kernel_rfl) (by simp) ?_
  refine AllReadyH.cons (o := ⟨none, Op.store 36 (Operand.tmp 9) (Operand.tmp 23), 0, _, _, none⟩) rfl (fun K hK => ?_) AllReadyH.nil
  have k0 := XA1.tail.tail.fact (.head _) (i := 0) rfl
  have k1 := XA1.tail.tail.fact (.head _) (i := 1) rfl
  have f0 := XA1.tail.tail.free (.head _) (i := 0) rfl
  have f1 := XA1.tail.tail.free (.head _) (i := 1) rfl
  go_simp
  have X1 : Has w [(P, [.int .i64 u0, .int .i64 u1]), (Q, [.int .i64 v0, .int .i64 v1]), (R, [.int .i64 x0, .int .i64 x1]), (w.heap.size, [.int .i64 a0, .int .i64 a1, .int .i64 b0, .int .i64 b1]), (w.heap.size + 1, [.int .i64 p0, .int .i64 p1])] (World.setCell (World.setCell wA1 ⟨R, 0, none⟩ (.int .i64 x0)) ⟨R, 1, none⟩ (.int .i64 x1)) := (XA1.third.set2 (.int .i64 x0) (.int .i64 x1)).third.third
  generalize (World.setCell (World.setCell wA1 ⟨R, 0, none⟩ (.int .i64 x0)) ⟨R, 1, none⟩ (.int .i64 x1)) = w3 at *
  clear k0 f0 k1 f1 XA1
  clear hHeld
  refine hK.out _ _ (ms1.out _ X1.tail.tail.tail) (fun hHeld => ?_)
  clear hK K
  try simp only [List.setIfInBounds_toArray, List.set_cons_zero, List.set_cons_succ]
  refine wpAnyH_listed #[true, true, true, true, true, true, true, true, true, true, true, true, true, true, true, true, true, true, true] (by kernel_rfl) ?_
  refine wpAnyH_done (by kernel_rfl) ?_ _
  try clear hHeld
  clear C0 X0 ms1
  obtain ⟨k0, k1⟩ := X1.pt
  obtain ⟨k2, k3⟩ := X1.tail.pt
  obtain ⟨k4, k5⟩ := X1.tail.tail.pt
  go_wp2_with fail
  refine (Has.call X1 (dot_b SU0_.out SU1_.out SV0_.out SV1_.out D1 H_hD1.out _)).mono ?_
  rintro e w4 ⟨rfl, X2⟩
  clear k0 k1 k2 k3 k4 k5
  obtain ⟨k0, k1⟩ := X2.pt
  obtain ⟨k2, k3⟩ := X2.tail.pt
  obtain ⟨k4, k5⟩ := X2.tail.tail.pt
  by_cases q1 : D1 ≤ 0
  · have HR := Lib.hid (show decide (4 * VV ≤ n) = r by have h := HRR.out; rw [if_pos q1] at h; exact h)
    clear HRR
    go_wp2_with fail
    refine (Has.call X2 (dot_b SV0_.out SV1_.out SV0_.out SV1_.out VV H_hVV.out _)).mono ?_
    rintro e w5 ⟨rfl, X3⟩
    clear k0 k1 k2 k3 k4 k5
    go_wp2_with fail
    go_ret
    exact ⟨ret_b HR.out, X3.low⟩
  · by_cases q2 : 0 ≤ D2
    · have HR := Lib.hid (show decide (4 * XX ≤ n) = r by have h := HRR.out; rw [if_neg q1, if_pos q2] at h; exact h)
      clear HRR
      go_wp2_with fail
      refine (Has.call X2 (dot_b SU0_.out SU1_.out SX0_.out SX1_.out D2 H_hD2.out _)).mono ?_
      rintro e w5 ⟨rfl, X3⟩
      clear k0 k1 k2 k3 k4 k5
      obtain ⟨k0, k1⟩ := X3.pt
      obtain ⟨k2, k3⟩ := X3.tail.pt
      obtain ⟨k4, k5⟩ := X3.tail.tail.pt
      go_wp2_with fail
      refine (Has.call X3 (dot_b SX0_.out SX1_.out SX0_.out SX1_.out XX H_hXX.out _)).mono ?_
      rintro e w6 ⟨rfl, X4⟩
      clear k0 k1 k2 k3 k4 k5
      go_wp2_with fail
      go_ret
      exact ⟨ret_b HR.out, X4.low⟩
    · have HR := Lib.hid (show decide (SG ≤ 0) = r by have h := HRR.out; rw [if_neg q1, if_neg q2] at h; exact h)
      clear HRR
      go_wp2_with fail
      refine (Has.call X2 (dot_b SU0_.out SU1_.out SX0_.out SX1_.out D2 H_hD2.out _)).mono ?_
      rintro e w5 ⟨rfl, X3⟩
      clear k0 k1 k2 k3 k4 k5
      obtain ⟨k0, k1⟩ := X3.pt
      obtain ⟨k2, k3⟩ := X3.tail.pt
      obtain ⟨k4, k5⟩ := X3.tail.tail.pt
      go_wp2_with fail
      refine (Has.call X3 (cross_b SU0_.out SU1_.out SV0_.out SV1_.out CR H_hCR.out _)).mono ?_
      rintro e w6 ⟨rfl, X4⟩
      clear k0 k1 k2 k3 k4 k5
      obtain ⟨k0, k1⟩ := X4.pt
      obtain ⟨k2, k3⟩ := X4.tail.pt
      obtain ⟨k4, k5⟩ := X4.tail.tail.pt
      go_wp2_with fail
      refine (Has.call X4 (dot_b SU0_.out SU1_.out SU0_.out SU1_.out UU H_hUU.out _)).mono ?_
      rintro e w7 ⟨rfl, X5⟩
      clear k0 k1 k2 k3 k4 k5
      go_wp2_with fail
      refine (Has.call X5 (sign2_is TW TW n UU SG H_hSG.out _ IT_.out IT_.out HN.out IU_.out)).mono ?_
      rintro e w8 ⟨rfl, X6⟩
      go_wp2_with fail
      go_ret
      exact ⟨ret_b HR.out, X6.low⟩

end Go.Proofs.Ytkejilomempogaa

namespace Go.Proofs.Ytkejilomempogaa
open Go.RowKit Go.Lib

set_option linter.unusedSimpArgs false in
set_option maxRecDepth 100000 in
set_option maxHeartbeats 64000000 in
theorem rsegw_any (a0 a1 b0 b1 p0 p1 n : Int) (w : World) (ha : inl 16384 a0 a1 = true) (hb : inl 16384 b0 b1 = true) (hp : inl 16384 p0 p1 = true) (hn : I64 n) :
    Calls Try.prog 51 #[.agg #[.int .i64 a0, .int .i64 a1], .agg #[.int .i64 b0, .int .i64 b1], .agg #[.int .i64 p0, .int .i64 p1], .int .i64 n] w fun e w' => e = .returned (.bool (segW a0 a1 b0 b1 p0 p1 n)) ∧ Below w.heap.size w w' := by
  have A := rt16 ha
  have B := rt16 hb
  have P := rt16 hp
  clear ha hb hp
  have sa0 : S16 a0 := ⟨by omega, by omega⟩
  have sa1 : S16 a1 := ⟨by omega, by omega⟩
  have sb0 : S16 b0 := ⟨by omega, by omega⟩
  have sb1 : S16 b1 := ⟨by omega, by omega⟩
  have sp0 : S16 p0 := ⟨by omega, by omega⟩
  have sp1 : S16 p1 := ⟨by omega, by omega⟩
  obtain ⟨r, hr⟩ : ∃ v, segW a0 a1 b0 b1 p0 p1 n = v := ⟨_, rfl⟩
  rw [hr]
  unfold segW at hr
  obtain ⟨u0, hu0⟩ : ∃ v, b0 - a0 = v := ⟨_, rfl⟩
  have su0 : S16 u0 := ⟨by omega, by omega⟩
  obtain ⟨u1, hu1⟩ : ∃ v, b1 - a1 = v := ⟨_, rfl⟩
  have su1 : S16 u1 := ⟨by omega, by omega⟩
  obtain ⟨v0, hv0⟩ : ∃ v, p0 - a0 = v := ⟨_, rfl⟩
  have sv0 : S16 v0 := ⟨by omega, by omega⟩
  obtain ⟨v1, hv1⟩ : ∃ v, p1 - a1 = v := ⟨_, rfl⟩
  have sv1 : S16 v1 := ⟨by omega, by omega⟩
  obtain ⟨x0, hx0⟩ : ∃ v, p0 - b0 = v := ⟨_, rfl⟩
  have sx0 : S16 x0 := ⟨by omega, by omega⟩
  obtain ⟨x1, hx1⟩ : ∃ v, p1 - b1 = v := ⟨_, rfl⟩
  have sx1 : S16 x1 := ⟨by omega, by omega⟩
  have hD2 : u0 * x0 + u1 * x1 = (v0 * u0 + v1 * u1) - (u0 * u0 + u1 * u1) := by
    have e0 : x0 = v0 - u0 := by omega
    have e1 : x1 = v1 - u1 := by omega
    rw [e0, e1]; grind
  rw [hu0, hu1, hv0, hv1, hx0, hx1] at hr
  clear A B P
  have hcm : u0 * v0 + u1 * v1 = v0 * u0 + v1 * u1 := by grind
  rw [hD2, hcm] at hr
  clear hD2 hcm
  obtain ⟨D1, hD1⟩ : ∃ v, v0 * u0 + v1 * u1 = v := ⟨_, rfl⟩
  obtain ⟨VV, hVV⟩ : ∃ v, v0 * v0 + v1 * v1 = v := ⟨_, rfl⟩
  obtain ⟨XX, hXX⟩ : ∃ v, x0 * x0 + x1 * x1 = v := ⟨_, rfl⟩
  obtain ⟨UU, hUU⟩ : ∃ v, u0 * u0 + u1 * u1 = v := ⟨_, rfl⟩
  obtain ⟨CR, hCR⟩ : ∃ v, u0 * v1 - u1 * v0 = v := ⟨_, rfl⟩
  rw [hD1, hVV, hXX, hUU, hCR] at hr
  have bVV : -8589934592 ≤ VV ∧ VV ≤ 8589934592 := by have := sv0.mul sv0; have := sv1.mul sv1; omega
  have bXX : -8589934592 ≤ XX ∧ XX ≤ 8589934592 := by have := sx0.mul sx0; have := sx1.mul sx1; omega
  have bUU : -8589934592 ≤ UU ∧ UU ≤ 8589934592 := by have := su0.mul su0; have := su1.mul su1; omega
  have bCR : -8589934592 ≤ CR ∧ CR ≤ 8589934592 := by have := su0.mul sv1; have := su1.mul sv0; omega
  have w4V : IntKind.i64.wrap (4 * VV) = 4 * VV := IntWalk.i64_in _ (by omega)
  have w4X : IntKind.i64.wrap (4 * XX) = 4 * XX := IntWalk.i64_in _ (by omega)
  have hsq : 2 * CR * (2 * CR) = 4 * CR * CR := by grind
  rw [hsq] at hr
  clear hsq
  obtain ⟨FC, hFC⟩ : ∃ v, 4 * CR = v := ⟨_, rfl⟩
  have w4C : IntKind.i64.wrap (4 * CR) = FC := hFC ▸ IntWalk.i64_in _ (by omega)
  rw [hFC] at hr
  obtain ⟨SG, hSG⟩ : ∃ v, (FC * CR - n * UU).sign = v := ⟨_, rfl⟩
  rw [hSG] at hr
  have iF : I64 FC := ⟨by omega, by omega⟩
  have iC : I64 CR := ⟨by omega, by omega⟩
  have iU : I64 UU := ⟨by omega, by omega⟩
  have H_hu0 := Lib.hid hu0
  have H_hu1 := Lib.hid hu1
  have H_hv0 := Lib.hid hv0
  have H_hv1 := Lib.hid hv1
  have H_hx0 := Lib.hid hx0
  have H_hx1 := Lib.hid hx1
  have H_hD1 := Lib.hid hD1
  have H_hVV := Lib.hid hVV
  have H_hXX := Lib.hid hXX
  have H_hUU := Lib.hid hUU
  have H_hCR := Lib.hid hCR
  have H_hSG := Lib.hid hSG
  clear hu0 hu1 hv0 hv1 hx0 hx1 hD1 hVV hXX hUU hCR hSG hFC
  have HN := Lib.hid hn
  clear hn
  have SA0_ := Lib.hid sa0
  have SA1_ := Lib.hid sa1
  have SB0_ := Lib.hid sb0
  have SB1_ := Lib.hid sb1
  have SP0_ := Lib.hid sp0
  have SP1_ := Lib.hid sp1
  have SU0_ := Lib.hid su0
  have SU1_ := Lib.hid su1
  have SV0_ := Lib.hid sv0
  have SV1_ := Lib.hid sv1
  have SX0_ := Lib.hid sx0
  have SX1_ := Lib.hid sx1
  have IF_ := Lib.hid iF
  have IC_ := Lib.hid iC
  have IU_ := Lib.hid iU
  clear sa0 sa1 sb0 sb1 sp0 sp1 su0 su1 sv0 sv1 sx0 sx1 iF iC iU
  have HRR := Lib.hid hr
  clear hr
  have C0 := has3 (w := w) [.int .i64 a0, .int .i64 a1] [.int .i64 b0, .int .i64 b1] [.int .i64 p0, .int .i64 p1] 36 36 36
  go_enter Try.func51, Try.ntmps51
  go_wp2_with fail
  change Has w _ (((w.alloc (.cells #[.int .i64 a0, .int .i64 a1] 36)).alloc (.cells #[.int .i64 b0, .int .i64 b1] 36)).alloc (.cells #[.int .i64 p0, .int .i64 p1] 36)) at C0
  generalize ((w.alloc (.cells #[.int .i64 a0, .int .i64 a1] 36)).alloc (.cells #[.int .i64 b0, .int .i64 b1] 36)).alloc (.cells #[.int .i64 p0, .int .i64 p1] 36) = w1 at *
  obtain ⟨⟨k0, k1, k2, k3, k4, k5⟩, -⟩ := C0.three
  go_wp2_with fail
  refine (Has.call C0 (rsub_b SB0_.out SB1_.out SA0_.out SA1_.out u0 u1 H_hu0.out H_hu1.out _)).mono ?_
  rintro e w2 ⟨rfl, C1⟩
  have C2 := C1.push [.int .i64 u0, .int .i64 u1] 36
  clear k0 k1 k2 k3 k4 k5 C0
  change Has w _ (w2.alloc (.cells #[.int .i64 u0, .int .i64 u1] 36)) at C2
  obtain ⟨⟨k0, k1, k2, k3, k4, k5⟩, -⟩ := C2.tail.three
  go_wp2_with fail
  generalize w2.alloc (.cells #[.int .i64 u0, .int .i64 u1] 36) = w3 at *
  generalize w2.heap.size = PU at *
  clear k0 k1 k2 k3 k4 k5 C1
  refine (Has.call C2 (rsub_b SP0_.out SP1_.out SA0_.out SA1_.out v0 v1 H_hv0.out H_hv1.out _)).mono ?_
  rintro e w4 ⟨rfl, C3⟩
  have C4 := C3.push [.int .i64 v0, .int .i64 v1] 36
  change Has w _ (w4.alloc (.cells #[.int .i64 v0, .int .i64 v1] 36)) at C4
  obtain ⟨⟨k0, k1, k2, k3, k4, k5⟩, -⟩ := C4.tail.tail.three
  clear C2
  go_wp2_with fail
  generalize w4.alloc (.cells #[.int .i64 v0, .int .i64 v1] 36) = w5 at *
  generalize w4.heap.size = PV at *
  clear k0 k1 k2 k3 k4 k5 C3
  refine (Has.call C4 (rsub_b SP0_.out SP1_.out SB0_.out SB1_.out x0 x1 H_hx0.out H_hx1.out _)).mono ?_
  rintro e w6 ⟨rfl, C5⟩
  have C6 := C5.push [.int .i64 x0, .int .i64 x1] 36
  change Has w _ (w6.alloc (.cells #[.int .i64 x0, .int .i64 x1] 36)) at C6
  obtain ⟨⟨k0, k1, k2, k3, k4, k5⟩, -⟩ := C6.three
  clear C4
  go_wp2_with fail
  generalize w6.alloc (.cells #[.int .i64 x0, .int .i64 x1] 36) = w7 at *
  generalize w6.heap.size = PX at *
  clear k0 k1 k2 k3 k4 k5 C5
  refine (Has.call C6 (rdot_b SU0_.out SU1_.out SU0_.out SU1_.out UU H_hUU.out _)).mono ?_
  rintro e w8 ⟨rfl, X8⟩
  obtain ⟨⟨k0, k1, k2, k3, k4, k5⟩, -⟩ := X8.three
  go_wp2_with fail
  clear k0 k1 k2 k3 k4 k5
  refine (Has.call X8 (rdot_b SV0_.out SV1_.out SU0_.out SU1_.out D1 H_hD1.out _)).mono ?_
  rintro e w9 ⟨rfl, X9⟩
  obtain ⟨⟨k0, k1, k2, k3, k4, k5⟩, -⟩ := X9.three
  by_cases q1 : D1 ≤ 0
  · have HR := Lib.hid (show decide (4 * VV ≤ n) = r by have h := HRR.out; rw [if_pos q1] at h; exact h)
    clear HRR
    go_wp2_with fail
    clear k0 k1 k2 k3 k4 k5
    refine (Has.call X9 (rdot_b SV0_.out SV1_.out SV0_.out SV1_.out VV H_hVV.out _)).mono ?_
    rintro e w10 ⟨rfl, X10⟩
    go_wp2_with fail
    go_ret
    exact ⟨ret_b HR.out, X10.low⟩
  · by_cases q2 : UU ≤ D1
    · have HR := Lib.hid (show decide (4 * XX ≤ n) = r by have h := HRR.out; rw [if_neg q1, if_pos (by omega)] at h; exact h)
      clear HRR
      go_wp2_with fail
      clear k0 k1 k2 k3 k4 k5
      refine (Has.call X9 (rdot_b SX0_.out SX1_.out SX0_.out SX1_.out XX H_hXX.out _)).mono ?_
      rintro e w10 ⟨rfl, X10⟩
      go_wp2_with fail
      go_ret
      exact ⟨ret_b HR.out, X10.low⟩
    · have HR := Lib.hid (show decide (SG ≤ 0) = r by have h := HRR.out; rw [if_neg q1, if_neg (by omega)] at h; exact h)
      clear HRR
      go_wp2_with fail
      clear k0 k1 k2 k3 k4 k5
      refine (Has.call X9 (rcross_b SU0_.out SU1_.out SV0_.out SV1_.out CR H_hCR.out _)).mono ?_
      rintro e w10 ⟨rfl, X10⟩
      go_wp2_with fail
      refine (Has.call X10 (rsign2_is FC CR n UU SG H_hSG.out _ IF_.out IC_.out HN.out IU_.out)).mono ?_
      rintro e w11 ⟨rfl, X11⟩
      go_wp2_with fail
      go_ret
      exact ⟨ret_b HR.out, X11.low⟩

end Go.Proofs.Ytkejilomempogaa
