/- Groups of made ways. -/
import Derived.Test.YtoaldbjcpfkcjaaGreatfFi
import Derived.Test.YtoaldbjcpfkcjaaGreatfMd
namespace Go.Proofs.YtoaldbjcpfkcjaaGreat
open Go.RowKit Go.Lib

theorem MdW.ids {ws : List Wy} (h : MdW ws) {i : Nat} (hi : i < ws.length) : idsOf ws i = (i : Int) + 1 := by
 unfold idsOf
 rw [List.getElem?_eq_getElem hi]
 exact h.id i _ (List.getElem?_eq_getElem hi)
theorem MdW.inj {ws : List Wy} (h : MdW ws) : ∀ i j, i < ws.length → j < ws.length → idsOf ws i = idsOf ws j → i = j := by
 intro i j hi hj he
 rw [h.ids hi, h.ids hj] at he
 omega
theorem MdW.wk {ws : List Wy} (h : MdW ws) : ∀ t ∈ ws, WK t := by
 intro t ht
 obtain ⟨hl, -, -, hp⟩ := h.at' t ht
 have key : ∀ p ∈ t.ln, K64 (p.1, p.2, t.lv) := by
  intro p hq
  have := hp p hq
  unfold K64 I64
  simp only
  omega
 have z : K64 (0, 0, 0) := by unfold K64 I64; decide
 refine ⟨?_, ?_⟩
 ·unfold fstK
  split
  ·exact z
  ·next p q he => exact key p (by rw [he]; exact .head _)
 ·unfold lstK
  split
  ·exact z
  ·next p he => exact key p (List.mem_of_getLast? he)
theorem MdW.take {ws : List Wy} (h : MdW ws) (k : Nat) : MdW (ws.take k) := by
 refine ⟨by rw [List.length_take]; have := h.len; omega, fun i t ht => h.id i t ?_, fun t ht => h.at' t (List.mem_of_mem_take ht)⟩
 rw [List.getElem?_take] at ht
 split at ht
 ·exact ht
 ·cases ht
theorem MdW.many {ws : List Wy} (h : MdW ws) {i : Nat} (hi : i < ws.length) : manyAt (grpW ws) (idsOf ws i) = 1 := grp_many (CC_equ ws) h.inj hi
theorem MdW.same {ws : List Wy} (h : MdW ws) {i j : Nat} (hi : i < ws.length) (hj : j < ws.length) : findP (grpW ws) (idsOf ws i) = findP (grpW ws) (idsOf ws j) ↔ CC ws i j = true := grp_same (CC_equ ws) h.inj hi hj
end Go.Proofs.YtoaldbjcpfkcjaaGreat
