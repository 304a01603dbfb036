/- Words for the law of spots. -/
import Derived.Test.YtoehojopoajcaaaLaw4
import Derived.Test.YtoehojopoajcaaaGeos
namespace Go.Proofs.Ytoehojopoajcaaa
open Go.RowKit Go.Lib

theorem Has.sub {w0 w : World} {bs cs : List (Nat × List Value)} (h : Has w0 bs w) (hs : cs.Sublist bs) : Has w0 cs w :=
  ⟨fun p hp => h.c p (hs.subset hp), fun p hp => h.lt p (hs.subset hp), fun p hp => h.ge p (hs.subset hp), h.nd.sublist hs, h.low⟩
theorem and31 (n : Int) : bits .and .i64 n 31 = n % 32 := by
  have h3 : (BitVec.ofInt 64 31).toNat = 2 ^ 5 - 1 := by decide
  have key : (BitVec.ofInt 64 n &&& BitVec.ofInt 64 31).toNat = (n % ((2 ^ 64 : Nat) : Int)).toNat % 2 ^ 5 := by
    rw [BitVec.toNat_and, BitVec.toNat_ofInt, h3, Nat.and_two_pow_sub_one_eq_mod]
  show IntKind.i64.wrap ((BitVec.ofInt 64 n &&& BitVec.ofInt 64 31).toNat : Nat) = n % 32
  rw [key, IntKind.wrap_i64]
  omega
theorem rgcd_is (a b g : Int) (h : gcdOf a b = g) (ha : -9223372036854775808 ≤ a ∧ a ≤ 9223372036854775807) (hb : -9223372036854775808 ≤ b ∧ b ≤ 9223372036854775807) (w : World) :
    Calls Try.prog 42 #[.int .i64 a, .int .i64 b] w fun e w' => e = .returned (.int .i64 g) ∧ Below w.heap.size w w' := h ▸ rgcd_any a b w ha hb
theorem spots_prep {A0 A1 A2 B0 B1 B2 D n f0 f1 f2 G2 t0 t1 t2 G3 : Int} (hA : Geo.Spt A0 A1 A2) (hB : Geo.Spt B0 B1 B2) (hn : 1 ≤ n ∧ n ≤ 30)
    (hF : Geo.Mv A0 A1 A2 B0 B1 B2 0 D f0 f1 f2 G2) (hT : Geo.Mv A0 A1 A2 B0 B1 B2 D D t0 t1 t2 G3) :
    (IntKind.i64.wrap (n * A0) = n * A0 ∧ IntKind.i64.wrap (n * A1) = n * A1 ∧ IntKind.i64.wrap (n * A2) = n * A2) ∧
    (IntKind.i64.wrap (f0 * A2) = A0 * f2 ∧ IntKind.i64.wrap (A0 * f2) = A0 * f2 ∧ IntKind.i64.wrap (f1 * A2) = A1 * f2 ∧ IntKind.i64.wrap (A1 * f2) = A1 * f2) ∧
    (IntKind.i64.wrap (t0 * B2) = B0 * t2 ∧ IntKind.i64.wrap (B0 * t2) = B0 * t2 ∧ IntKind.i64.wrap (t1 * B2) = B1 * t2 ∧ IntKind.i64.wrap (B1 * t2) = B1 * t2) := by
  have a := hA.bd
  have b := hB.bd
  have q1 := mul_b n A0 30 524288 (by omega) (by omega) (by omega) (by omega)
  have q2 := mul_b n A1 30 524288 (by omega) (by omega) (by omega) (by omega)
  have q3 := mul_b n A2 30 32 (by omega) (by omega) (by omega) (by omega)
  have z := hF.zero
  have o := hT.one
  have hf := hF.b2
  have ht := hT.b2
  have r1 := mul_b A0 f2 524288 65536 (by omega) (by omega) (by omega) (by omega)
  have r2 := mul_b A1 f2 524288 65536 (by omega) (by omega) (by omega) (by omega)
  have r3 := mul_b B0 t2 524288 65536 (by omega) (by omega) (by omega) (by omega)
  have r4 := mul_b B1 t2 524288 65536 (by omega) (by omega) (by omega) (by omega)
  rw [z.1, z.2, o.1, o.2]
  refine ⟨⟨?_, ?_, ?_⟩, ⟨?_, ?_, ?_, ?_⟩, ?_, ?_, ?_, ?_⟩ <;> exact IntWalk.i64_in _ (by omega)

end Go.Proofs.Ytoehojopoajcaaa
