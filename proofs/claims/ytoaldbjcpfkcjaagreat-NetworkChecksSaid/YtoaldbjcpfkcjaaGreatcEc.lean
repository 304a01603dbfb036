/- A stop is added to the forest. -/
import Derived.Test.YtoaldbjcpfkcjaaGreatcEb
namespace Go.Proofs.YtoaldbjcpfkcjaaGreat
open Go.RowKit Go.Lib

theorem HM.g0 {w0 w W : World} {b : Nat} {bs : List (Nat × List Value)} (h : HM w0 w b bs W) : w.grownBy W (some b) := h.g
theorem lookok_none {w : World} {b n : Nat} {F : Forest} (M : MapV w b n (FV F)) {x y z : Int} (hk : K64 (x, y, z)) (hF : F (x, y, z) = none) :
  (Instr.lookup 69 (.map (some b)) (.agg #[.int .i64 x, .int .i64 y, .int .i64 z]) true).run Tryz.prog w = .ok (.tuple #[.agg #[.int .i64 0, .int .i64 0, .int .i64 0, .int .i64 0], .bool false]) w := by
 have := M.look_ok und69 (zero95 w) hk
 unfold FV at this
 rw [hF] at this
 exact this
theorem lookok_some {w : World} {b n : Nat} {F : Forest} (M : MapV w b n (FV F)) {x y z u0 u1 u2 m : Int} (hk : K64 (x, y, z)) (hF : F (x, y, z) = some ((u0, u1, u2), m)) :
  (Instr.lookup 69 (.map (some b)) (.agg #[.int .i64 x, .int .i64 y, .int .i64 z]) true).run Tryz.prog w = .ok (.tuple #[.agg #[.int .i64 u0, .int .i64 u1, .int .i64 u2, .int .i64 m], .bool true]) w := by
 have := M.look_ok und69 (zero95 w) hk
 unfold FV at this
 rw [hF] at this
 exact this
theorem FV_set (F : Forest) (k : Key) (v : Key × Int) : VSet (FV F) k (treeV v) = FV (FSet F k v) := by
 funext l
 unfold VSet FV FSet
 by_cases e : l = k
 ·rw [if_pos e, if_pos e]; rfl
 ·rw [if_neg e, if_neg e]
theorem upd69 {w : World} {b n : Nat} {F : Forest} (M : MapV w b n (FV F)) (hn : n < maxLen) {x y z u0 u1 u2 m : Int} (hk : K64 (x, y, z)) :
  ∃ w', (Instr.mapUpdate 69 (.map (some b)) (.agg #[.int .i64 x, .int .i64 y, .int .i64 z]) (.agg #[.int .i64 u0, .int .i64 u1, .int .i64 u2, .int .i64 m])).run Tryz.prog w = .ok () w' ∧ MapV w' b (n + 1) (FV (FSet F (x, y, z) ((u0, u1, u2), m))) ∧ w.grownBy w' (some b) := by
 obtain ⟨w', h1, h2, h3⟩ := M.update und69 hn hk (treeV ((u0, u1, u2), m))
 rw [FV_set] at h2
 exact ⟨w', h1, h2, h3⟩
/-- What a call leaves that writes into the map b alone. -/
def MapR (w0 w : World) (b n : Nat) (F : Forest) (w' : World) : Prop := w.grownBy w' (some b) ∧ Below w0.heap.size w0 w' ∧ MapV w' b n (FV F)
def addF (F : Forest) (k : Key) : Forest := if F k = none then FSet F k (k, 1) else F
set_option maxRecDepth 100000 in
set_option maxHeartbeats 1000000 in
theorem fadd_any {F : Forest} {w0 w : World} {b n : Nat} {k : Key} (L : Below w0.heap.size w0 w) (hl : w0.heap.size ≤ b) (M : MapV w b n (FV F)) (hk : K64 k) (hn : n < maxLen) :
  Calls Tryz.prog 64 #[.map (some b), kv k] w fun e w' => e = .returned (.tuple #[]) ∧ MapR w0 w b (n + 1) (addF F k) w' := by
 obtain ⟨x, y, z⟩ := k
 unfold kv addF
 simp only
 have HK := Lib.hid hk
 have HN := Lib.hid hn
 clear hk hn
 cases hF : F (x, y, z) with
 | none =>
  have HF := Lib.hid hF
  clear hF
  simp only [if_true]
  have H0 := (HM.start L M.lt hl).push [.int .i64 x, .int .i64 y, .int .i64 z] 39
  have HL := Lib.hid L
  have HB := Lib.hid hl
  clear L hl
  go_enter Tryz.func64, Tryz.ntmps64
  go_upto_region 1 with fail
  change HM w0 w b _ (w.alloc (.cells #[.int .i64 x, .int .i64 y, .int .i64 z] 39)) at H0
  have M1 := M.kept (World.grownBy_alloc w (.cells #[.int .i64 x, .int .i64 y, .int .i64 z] 39) none) (by simp)
  generalize w.alloc (.cells #[.int .i64 x, .int .i64 y, .int .i64 z] 39) = w1 at *
  have k0 := H0.h.fact (.head _) (i := 0) rfl
  have k1 := H0.h.fact (.head _) (i := 1) rfl
  have k2 := H0.h.fact (.head _) (i := 2) rfl
  have hq := lookok_none M1 HK.out HF.out
  have H1 := H0.push [.int .i64 0, .int .i64 0, .int .i64 0, .int .i64 0] 95
  go_upto_region 2 with fail
  change HM w0 w b _ (w1.alloc (.cells #[.int .i64 0, .int .i64 0, .int .i64 0, .int .i64 0] 95)) at H1
  have M2 := M1.kept (World.grownBy_alloc w1 (.cells #[.int .i64 0, .int .i64 0, .int .i64 0, .int .i64 0] 95) none) (by simp)
  generalize w1.alloc (.cells #[.int .i64 0, .int .i64 0, .int .i64 0, .int .i64 0] 95) = w2 at *
  clear hq k0 k1 k2 M1 M H0
  generalize w1.heap.size = U at *
  obtain ⟨w3, hu, M3, g3⟩ := upd69 (u0 := x) (u1 := y) (u2 := z) (m := 1) M2 HN.out HK.out
  have k0 := H1.h.tail.fact (.head _) (i := 0) rfl
  have k1 := H1.h.tail.fact (.head _) (i := 1) rfl
  have k2 := H1.h.tail.fact (.head _) (i := 2) rfl
  have HR := Lib.hid (show MapR w0 w b (n + 1) (FSet F (x, y, z) ((x, y, z), 1)) w3 from ⟨(H1.upd g3).g, (H1.upd g3).h.low, M3⟩)
  clear M2 M3 g3 H1
  go_wp2_with fail
  go_end0
  exact ⟨rfl, HR.out⟩
 | some v =>
  obtain ⟨⟨u0, u1, u2⟩, m⟩ := v
  have HF := Lib.hid hF
  clear hF
  simp only [reduceCtorEq, if_false]
  have H0 := (HM.start L M.lt hl).push [.int .i64 x, .int .i64 y, .int .i64 z] 39
  have HL := Lib.hid L
  have HB := Lib.hid hl
  clear L hl
  go_enter Tryz.func64, Tryz.ntmps64
  go_upto_region 1 with fail
  change HM w0 w b _ (w.alloc (.cells #[.int .i64 x, .int .i64 y, .int .i64 z] 39)) at H0
  have M1 := M.kept (World.grownBy_alloc w (.cells #[.int .i64 x, .int .i64 y, .int .i64 z] 39) none) (by simp)
  generalize w.alloc (.cells #[.int .i64 x, .int .i64 y, .int .i64 z] 39) = w1 at *
  have k0 := H0.h.fact (.head _) (i := 0) rfl
  have k1 := H0.h.fact (.head _) (i := 1) rfl
  have k2 := H0.h.fact (.head _) (i := 2) rfl
  have hq := lookok_some M1 HK.out HF.out
  have H1 := H0.push [.int .i64 u0, .int .i64 u1, .int .i64 u2, .int .i64 m] 95
  go_upto_region 2 with fail
  change HM w0 w b _ (w1.alloc (.cells #[.int .i64 u0, .int .i64 u1, .int .i64 u2, .int .i64 m] 95)) at H1
  have M2 := M1.kept (World.grownBy_alloc w1 (.cells #[.int .i64 u0, .int .i64 u1, .int .i64 u2, .int .i64 m] 95) none) (by simp)
  generalize w1.alloc (.cells #[.int .i64 u0, .int .i64 u1, .int .i64 u2, .int .i64 m] 95) = w2 at *
  clear hq k0 k1 k2 M1 M H0
  generalize w1.heap.size = U at *
  have HR := Lib.hid (show MapR w0 w b (n + 1) F w2 from ⟨H1.g, H1.h.low, M2.mono (by omega)⟩)
  clear M2 H1
  go_wp2_with fail
  go_end0
  exact ⟨rfl, HR.out⟩

end Go.Proofs.YtoaldbjcpfkcjaaGreat
