/- Groups of made ways. -/
import Derived.Test.YtoaldbjcpfkcjaaGreatqFi
import Derived.Test.YtoaldbjcpfkcjaaGreatqMd
namespace Go.Proofs.YtoaldbjcpfkcjaaGreat
open Go.RowKit Go.Lib

theorem MdW.ids {ws : List Wy} (h : MdW ws) {i : Nat} (hi : i < ws.length) : idsOf ws i = (i : Int) + 1 := by
  unfold idsOf
  rw [List.getElem?_eq_getElem hi]
  exact h.id i _ (List.getElem?_eq_getElem hi)
theorem MdW.inj {ws : List Wy} (h : MdW ws) : ∀ i j, i < ws.length → j < ws.length → idsOf ws i = idsOf ws j → i = j := by
  intro i j hi hj he
  rw [h.ids hi, h.ids hj] at he
  omega
theorem MdW.wk {ws : List Wy} (h : MdW ws) : ∀ t ∈ ws, WK t := by
  intro t ht
  obtain ⟨hl, -, -, hp⟩ := h.at' t ht
  have key : ∀ p ∈ t.ln, K64 (p.1, p.2, t.lv) := by
    intro p hq
    have := hp p hq
    unfold K64 I64
    simp only
    omega
  have z : K64 (0, 0, 0) := by unfold K64 I64; decide
  refine ⟨?_, ?_⟩
  · unfold fstK
    split
    · exact z
    · next p q he => exact key p (by rw [he]; exact .head _)
  · unfold lstK
    split
    · exact z
    · next p he => exact key p (List.mem_of_getLast? he)
theorem MdW.take {ws : List Wy} (h : MdW ws) (k : Nat) : MdW (ws.take k) := by
  refine ⟨by rw [List.length_take]; have := h.len; omega, fun i t ht => h.id i t ?_, fun t ht => h.at' t (List.mem_of_mem_take ht)⟩
  rw [List.getElem?_take] at ht
  split at ht
  · exact ht
  · cases ht
theorem JJ_take {ws : List Wy} {K i j : Nat} (h : JJ (ws.take K) i j = true) : JJ ws i j = true := by
  obtain ⟨a, b, ha, hb, hab⟩ := JJ_get h
  have g : ∀ {i : Nat} {a : Wy}, (ws.take K)[i]? = some a → ws[i]? = some a := by
    intro i a ha
    rw [List.getElem?_take] at ha
    split at ha
    · exact ha
    · cases ha
  rw [JJ_some (g ha) (g hb)]
  exact hab
theorem CC_take {ws : List Wy} {K i j : Nat} (h : CC (ws.take K) i j = true) : CC ws i j = true :=
  CC_conn.2 (Conn.congr (fun _ _ => JJ_take) (CC_conn.1 h))
theorem more_len {ws : List Wy} {K : Nat} (h : ws.length = K + 1) : (grpW ws).length ≤ (grpW (ws.take K)).length + 1 := by
  unfold grpW
  rw [grp_length, grp_length, h, List.length_take, h, Nat.min_eq_left (by omega)]
  exact reps_more fun i j _ _ => CC_take
theorem MdW.many {ws : List Wy} (h : MdW ws) {i : Nat} (hi : i < ws.length) : manyAt (grpW ws) (idsOf ws i) = 1 := grp_many (CC_equ ws) h.inj hi
theorem MdW.find {ws : List Wy} (h : MdW ws) {i : Nat} (hi : i < ws.length) : 0 ≤ findP (grpW ws) (idsOf ws i) := grp_find (CC_equ ws) h.inj hi
theorem MdW.same {ws : List Wy} (h : MdW ws) {i j : Nat} (hi : i < ws.length) (hj : j < ws.length) : findP (grpW ws) (idsOf ws i) = findP (grpW ws) (idsOf ws j) ↔ CC ws i j = true := grp_same (CC_equ ws) h.inj hi hj
/-- A further way only joins groups. -/
theorem more_same {ws : List Wy} {K : Nat} (h : MdW ws) (hK : ws.length = K + 1) {i j : Nat} (hi : i < K) (hj : j < K) (he : findP (grpW (ws.take K)) (i + 1) = findP (grpW (ws.take K)) (j + 1)) : findP (grpW ws) (i + 1) = findP (grpW ws) (j + 1) := by
  have l : (ws.take K).length = K := by rw [List.length_take]; omega
  rw [← h.ids (by omega), ← h.ids (by omega)]
  rw [← (h.take K).ids (by omega), ← (h.take K).ids (by omega)] at he
  exact (h.same (by omega) (by omega)).2 (CC_take (((h.take K).same (by omega) (by omega)).1 he))
theorem made_find (v : Value) {ws : List Wy} (h : MdW ws) {i : Nat} (hi : i < ws.length) (r : Int) (hr : findP (grpW ws) (i + 1) = r) (w : World) (hv : RowG w v (grpW ws)) :
    Calls Tryz.prog 25 #[v, .int .i64 ((i : Int) + 1)] w fun e w' => e = .returned (.int .i64 r) ∧ w = w' :=
  find_is v _ _ r hr w hv (by have := h.many hi; rw [h.ids hi] at this; omega)

end Go.Proofs.YtoaldbjcpfkcjaaGreat
