/- The root of a stop. -/
import Derived.Test.YtoaldbjcpfkcjaaGreatcEa
namespace Go.Proofs.YtoaldbjcpfkcjaaGreat
open Go.RowKit Go.Lib

/-- A tree by value. -/
def treeV (p : Key × Int) : Value := .agg #[.int .i64 p.1.1, .int .i64 p.1.2.1, .int .i64 p.1.2.2, .int .i64 p.2]
def FV (F : Forest) : Key → Option Value := fun k => (F k).map treeV
def FK (F : Forest) : Prop := ∀ k u n, F k = some (u, n) → K64 u
theorem zero95 (w : World) : (zeroValue 95).run Tryz.prog w = .ok (.agg #[.int .i64 0, .int .i64 0, .int .i64 0, .int .i64 0]) w := by kernel_rfl
theorem zero3 (w : World) : (zeroValue 3).run Tryz.prog w = .ok (.int .i64 0) w := by kernel_rfl
theorem und69 : Tryz.prog.underlying 69 = some (.map 39 95) := by kernel_rfl
theorem und96 : Tryz.prog.underlying 96 = some (.map 39 3) := by kernel_rfl
theorem fieldUp (x y z m : Int) (w : World) : (Instr.field 95 (.agg #[.int .i64 x, .int .i64 y, .int .i64 z, .int .i64 m]) 0).run Tryz.prog w = .ok (.agg #[.int .i64 x, .int .i64 y, .int .i64 z]) w := by kernel_rfl
theorem fieldMany (x y z m : Int) (w : World) : (Instr.field 95 (.agg #[.int .i64 x, .int .i64 y, .int .i64 z, .int .i64 m]) 1).run Tryz.prog w = .ok (.int .i64 m) w := by kernel_rfl
theorem look69 {w : World} {b n : Nat} {F : Forest} (M : MapV w b n (FV F)) {x y z u0 u1 u2 m : Int} (hk : K64 (x, y, z)) (hF : F (x, y, z) = some ((u0, u1, u2), m)) :
  (Instr.lookup 69 (.map (some b)) (.agg #[.int .i64 x, .int .i64 y, .int .i64 z]) false).run Tryz.prog w = .ok (.agg #[.int .i64 u0, .int .i64 u1, .int .i64 u2, .int .i64 m]) w := by
 have := M.look und69 (zero95 w) hk
 unfold FV at this
 rw [hF] at this
 exact this
theorem run_store_fn (P : Program) (w : World) (a : Addr) (m : Mode) (f : Fn) (x y : Array Value) : (store a (.func f x y) m).run P w = stored P w a (.func f x y) m := run_store P w a _ m rfl
attribute [local go_sem] run_store_fn
attribute [local go_sem ↓] run_keyeq run_keyne
set_option maxRecDepth 100000 in
set_option maxHeartbeats 1000000 in
theorem climb_any {F : Forest} {k r : Key} (h : RootOf F k r) : ∀ (w : World) (b n B C : Nat), FK F → K64 k → MapV w b n (FV F) → w.cell? ⟨B, 0, none⟩ = some (.map (some b)) → w.cell? ⟨C, 0, none⟩ = some (.func (.func 65) #[] #[.pointer (some ⟨B, 0, none⟩), .pointer (some ⟨C, 0, none⟩)]) →
  Calls Tryz.prog 65 #[kv k, .pointer (some ⟨B, 0, none⟩), .pointer (some ⟨C, 0, none⟩)] w fun e w' => e = .returned (kv r) ∧ Below w.heap.size w w' := by
 induction h with
 | @base k m hF =>
  intro w b n B C hFK hk M cB cC
  obtain ⟨x, y, z⟩ := k
  unfold kv
  simp only
  have C0 := ((Has.nil (Below.refl w.heap.size w)).push [.int .i64 x, .int .i64 y, .int .i64 z] 39).push [.int .i64 0, .int .i64 0, .int .i64 0] 39
  simp only [size_alloc] at C0
  have HB := Lib.hid cB
  have HF := Lib.hid hF
  have HK := Lib.hid hk
  clear cC cB hF hk hFK
  go_enter Tryz.func65, Tryz.ntmps65
  go_upto_region 1 with fail
  change Has w _ ((w.alloc (.cells #[.int .i64 x, .int .i64 y, .int .i64 z] 39)).alloc (.cells #[.int .i64 0, .int .i64 0, .int .i64 0] 39)) at C0
  generalize (w.alloc (.cells #[.int .i64 x, .int .i64 y, .int .i64 z] 39)).alloc (.cells #[.int .i64 0, .int .i64 0, .int .i64 0] 39) = w0 at *
  have M0 := M.later C0.low
  have hl := look69 M0 HK.out HF.out
  have hfd := fieldUp x y z m
  have cB := (C0.low.cell (World.block_lt_of_cell? w _ HB.out)).trans HB.out
  have k0 := C0.tail.fact (.head _) (i := 0) rfl
  have k1 := C0.tail.fact (.head _) (i := 1) rfl
  have k2 := C0.tail.fact (.head _) (i := 2) rfl
  have C1 := C0.push [.int .i64 x, .int .i64 y, .int .i64 z] 39
  go_upto_region 2 with fail
  change Has w _ (w0.alloc (.cells #[.int .i64 x, .int .i64 y, .int .i64 z] 39)) at C1
  generalize w0.alloc (.cells #[.int .i64 x, .int .i64 y, .int .i64 z] 39) = w1 at *
  generalize w0.heap.size = U at *
  clear hl cB k0 k1 k2 hfd
  have k0 := C1.tail.tail.fact (.head _) (i := 0) rfl
  have k1 := C1.tail.tail.fact (.head _) (i := 1) rfl
  have k2 := C1.tail.tail.fact (.head _) (i := 2) rfl
  have l0 := C1.fact (.head _) (i := 0) rfl
  have l1 := C1.fact (.head _) (i := 1) rfl
  have l2 := C1.fact (.head _) (i := 2) rfl
  have f0 := C1.tail.free (.head _) (i := 0) rfl
  have f1 := C1.tail.free (.head _) (i := 1) rfl
  have f2 := C1.tail.free (.head _) (i := 2) rfl
  have m0 := C1.tail.fact (.head _) (i := 0) rfl
  have m1 := C1.tail.fact (.head _) (i := 1) rfl
  have m2 := C1.tail.fact (.head _) (i := 2) rfl
  have he : keq x y z x y z = true := by unfold keq; simp
  have C2 := ((C1.tail.set 0 (by simp) (.int .i64 x)).set 1 (by simp) (.int .i64 y)).set 2 (by simp) (.int .i64 z)
  clear M0 M C0
  have HC1 := Lib.hid C1
  clear C1
  have HC2 := Lib.hid C2
  clear C2
  go_wp2_with fail
  have C2 := HC2.out
  change Has w ((_, [.int .i64 x, .int .i64 y, .int .i64 z]) :: _) (((w1.setCell ⟨w.heap.size + 1, 0, none⟩ (.int .i64 x)).setCell ⟨w.heap.size + 1, 1, none⟩ (.int .i64 y)).setCell ⟨w.heap.size + 1, 2, none⟩ (.int .i64 z)) at C2
  generalize ((w1.setCell ⟨w.heap.size + 1, 0, none⟩ (.int .i64 x)).setCell ⟨w.heap.size + 1, 1, none⟩ (.int .i64 y)).setCell ⟨w.heap.size + 1, 2, none⟩ (.int .i64 z) = w2 at *
  have d0 := C2.fact (.head _) (i := 0) rfl
  have d1 := C2.fact (.head _) (i := 1) rfl
  have d2 := C2.fact (.head _) (i := 2) rfl
  exact bodyPost_ret (v := .agg #[.int .i64 x, .int .i64 y, .int .i64 z]) (by simp [results, Tryz.results65, go_sem, d0, d1, d2]) rfl ⟨rfl, C2.low⟩
 | @step k u r m hF hu hr ih =>
  intro w b n B C hFK hk M cB cC
  obtain ⟨x, y, z⟩ := k
  obtain ⟨p, q, s⟩ := u
  obtain ⟨r0, r1, r2⟩ := r
  unfold kv at ih ⊢
  simp only at ih ⊢
  have C0 := ((Has.nil (Below.refl w.heap.size w)).push [.int .i64 x, .int .i64 y, .int .i64 z] 39).push [.int .i64 0, .int .i64 0, .int .i64 0] 39
  simp only [size_alloc] at C0
  have HB := Lib.hid cB
  have HC := Lib.hid cC
  have HF := Lib.hid hF
  have HK := Lib.hid hk
  have HU := Lib.hid hu
  have HFK := Lib.hid hFK
  have HI := Lib.hid ih
  clear cC cB hF hk hFK hu ih
  go_enter Tryz.func65, Tryz.ntmps65
  go_upto_region 1 with fail
  change Has w _ ((w.alloc (.cells #[.int .i64 x, .int .i64 y, .int .i64 z] 39)).alloc (.cells #[.int .i64 0, .int .i64 0, .int .i64 0] 39)) at C0
  generalize (w.alloc (.cells #[.int .i64 x, .int .i64 y, .int .i64 z] 39)).alloc (.cells #[.int .i64 0, .int .i64 0, .int .i64 0] 39) = w0 at *
  have M0 := M.later C0.low
  have hl := look69 M0 HK.out HF.out
  have hfd := fieldUp p q s m
  have cB := (C0.low.cell (World.block_lt_of_cell? w _ HB.out)).trans HB.out
  have k0 := C0.tail.fact (.head _) (i := 0) rfl
  have k1 := C0.tail.fact (.head _) (i := 1) rfl
  have k2 := C0.tail.fact (.head _) (i := 2) rfl
  have C1 := C0.push [.int .i64 p, .int .i64 q, .int .i64 s] 39
  go_upto_region 2 with fail
  change Has w _ (w0.alloc (.cells #[.int .i64 p, .int .i64 q, .int .i64 s] 39)) at C1
  generalize w0.alloc (.cells #[.int .i64 p, .int .i64 q, .int .i64 s] 39) = w1 at *
  generalize w0.heap.size = U at *
  clear hl cB k0 k1 k2 hfd
  have k0 := C1.tail.tail.fact (.head _) (i := 0) rfl
  have k1 := C1.tail.tail.fact (.head _) (i := 1) rfl
  have k2 := C1.tail.tail.fact (.head _) (i := 2) rfl
  have l0 := C1.fact (.head _) (i := 0) rfl
  have l1 := C1.fact (.head _) (i := 1) rfl
  have l2 := C1.fact (.head _) (i := 2) rfl
  have he : keq p q s x y z = false := by unfold keq; exact decide_eq_false HU.out
  have cB := (C1.low.cell (World.block_lt_of_cell? w _ HB.out)).trans HB.out
  have cC := (C1.low.cell (World.block_lt_of_cell? w _ HC.out)).trans HC.out
  have HM := Lib.hid (M.later C1.low)
  clear M0 M C0
  have HC1 := Lib.hid C1
  clear C1
  go_wp2_with fail
  refine (HI.out _ _ _ _ _ HFK.out (HFK.out _ _ _ HF.out) HM.out cB cC).mono ?_
  rintro e w2 ⟨rfl, g2⟩
  have C2 := HC1.out.later g2
  clear cB cC k0 k1 k2 l0 l1 l2 HC1 HM g2
  have f0 := C2.tail.free (.head _) (i := 0) rfl
  have f1 := C2.tail.free (.head _) (i := 1) rfl
  have f2 := C2.tail.free (.head _) (i := 2) rfl
  have m0 := C2.tail.fact (.head _) (i := 0) rfl
  have m1 := C2.tail.fact (.head _) (i := 1) rfl
  have m2 := C2.tail.fact (.head _) (i := 2) rfl
  have C3 := ((C2.tail.set 0 (by simp) (.int .i64 r0)).set 1 (by simp) (.int .i64 r1)).set 2 (by simp) (.int .i64 r2)
  have HC3 := Lib.hid C3
  clear C3 C2
  go_wp2_with fail
  have C3 := HC3.out
  change Has w ((_, [.int .i64 r0, .int .i64 r1, .int .i64 r2]) :: _) (((w2.setCell ⟨w.heap.size + 1, 0, none⟩ (.int .i64 r0)).setCell ⟨w.heap.size + 1, 1, none⟩ (.int .i64 r1)).setCell ⟨w.heap.size + 1, 2, none⟩ (.int .i64 r2)) at C3
  generalize ((w2.setCell ⟨w.heap.size + 1, 0, none⟩ (.int .i64 r0)).setCell ⟨w.heap.size + 1, 1, none⟩ (.int .i64 r1)).setCell ⟨w.heap.size + 1, 2, none⟩ (.int .i64 r2) = w3 at *
  have d0 := C3.fact (.head _) (i := 0) rfl
  have d1 := C3.fact (.head _) (i := 1) rfl
  have d2 := C3.fact (.head _) (i := 2) rfl
  exact bodyPost_ret (v := .agg #[.int .i64 r0, .int .i64 r1, .int .i64 r2]) (by simp [results, Tryz.results65, go_sem, d0, d1, d2]) rfl ⟨rfl, C3.low⟩
set_option maxRecDepth 100000 in
set_option maxHeartbeats 1000000 in
theorem root_any {F : Forest} {k r : Key} (h : RootOf F k r) {w : World} {b n : Nat} (hFK : FK F) (hk : K64 k) (M : MapV w b n (FV F)) :
  Calls Tryz.prog 39 #[.map (some b), kv k] w fun e w' => e = .returned (kv r) ∧ Below w.heap.size w w' := by
 have HH := Lib.hid (climb_any h)
 clear h
 obtain ⟨x, y, z⟩ := k
 obtain ⟨r0, r1, r2⟩ := r
 unfold kv at HH ⊢
 simp only at HH ⊢
 have C0 := ((((Has.nil (Below.refl w.heap.size w)).push [.map (some b)] 69).push [.int .i64 x, .int .i64 y, .int .i64 z] 39).push [.int .i64 0, .int .i64 0, .int .i64 0] 39).push [.func (.func 65) #[] #[.pointer (some ⟨w.heap.size, 0, none⟩), .pointer (some ⟨w.heap.size + 1 + 1 + 1, 0, none⟩)]] 73
 simp only [size_alloc] at C0
 have HM := Lib.hid M
 have HF := Lib.hid hFK
 have HK := Lib.hid hk
 clear M hFK hk
 go_enter Tryz.func39, Tryz.ntmps39
 go_upto_region 3 with fail
 change Has w _ ((((w.alloc (.cells #[.map (some b)] 69)).alloc (.cells #[.int .i64 x, .int .i64 y, .int .i64 z] 39)).alloc (.cells #[.int .i64 0, .int .i64 0, .int .i64 0] 39)).alloc (.cells #[.func (.func 65) #[] #[.pointer (some ⟨w.heap.size, 0, none⟩), .pointer (some ⟨w.heap.size + 1 + 1 + 1, 0, none⟩)]] 73)) at C0
 generalize ((((w.alloc (.cells #[.map (some b)] 69)).alloc (.cells #[.int .i64 x, .int .i64 y, .int .i64 z] 39)).alloc (.cells #[.int .i64 0, .int .i64 0, .int .i64 0] 39)).alloc (.cells #[.func (.func 65) #[] #[.pointer (some ⟨w.heap.size, 0, none⟩), .pointer (some ⟨w.heap.size + 1 + 1 + 1, 0, none⟩)]] 73)) = w0 at *
 have cC := C0.fact (.head _) (i := 0) rfl
 have cB := C0.tail.tail.tail.fact (.head _) (i := 0) rfl
 have k0 := C0.tail.tail.fact (.head _) (i := 0) rfl
 have k1 := C0.tail.tail.fact (.head _) (i := 1) rfl
 have k2 := C0.tail.tail.fact (.head _) (i := 2) rfl
 have HX := Lib.hid (HH.out w0 b n _ _ HF.out HK.out (HM.out.later C0.low) cB cC)
 have D0 := Lib.hid C0
 clear C0 HM cB
 go_wp2_with fail
 refine HX.out.mono ?_
 rintro e w1 ⟨rfl, g1⟩
 have C1 := D0.out.later g1
 clear k0 k1 k2 cC HX D0 g1
 have C2 := C1.tail
 clear C1
 have f0 := C2.free (.head _) (i := 0) rfl
 have f1 := C2.free (.head _) (i := 1) rfl
 have f2 := C2.free (.head _) (i := 2) rfl
 have m0 := C2.fact (.head _) (i := 0) rfl
 have m1 := C2.fact (.head _) (i := 1) rfl
 have m2 := C2.fact (.head _) (i := 2) rfl
 have HC3 := Lib.hid (((C2.set 0 (by simp) (.int .i64 r0)).set 1 (by simp) (.int .i64 r1)).set 2 (by simp) (.int .i64 r2))
 clear C2
 go_wp2_with fail
 have C3 := HC3.out
 change Has w ((_, [.int .i64 r0, .int .i64 r1, .int .i64 r2]) :: _) (((w1.setCell ⟨w.heap.size + 1 + 1, 0, none⟩ (.int .i64 r0)).setCell ⟨w.heap.size + 1 + 1, 1, none⟩ (.int .i64 r1)).setCell ⟨w.heap.size + 1 + 1, 2, none⟩ (.int .i64 r2)) at C3
 generalize ((w1.setCell ⟨w.heap.size + 1 + 1, 0, none⟩ (.int .i64 r0)).setCell ⟨w.heap.size + 1 + 1, 1, none⟩ (.int .i64 r1)).setCell ⟨w.heap.size + 1 + 1, 2, none⟩ (.int .i64 r2) = w3 at *
 have d0 := C3.fact (.head _) (i := 0) rfl
 have d1 := C3.fact (.head _) (i := 1) rfl
 have d2 := C3.fact (.head _) (i := 2) rfl
 exact bodyPost_ret (v := .agg #[.int .i64 r0, .int .i64 r1, .int .i64 r2]) (by simp [results, Tryz.results39, go_sem, d0, d1, d2]) rfl ⟨rfl, C3.low⟩

end Go.Proofs.YtoaldbjcpfkcjaaGreat
