/- Lists in the opposite order. The reference: lists in the opposite order. -/
import Derived.Test.YtmldgjhecoeldaaOw
namespace Go.Proofs.Ytmldgjhecoeldaa
open Go.RowKit Go.Lib

set_option maxRecDepth 100000 in
set_option maxHeartbeats 2000000 in
theorem clone_any (v : Value) (ps : List (Int × Int)) (w : World) (hv : RowP w v ps) (hn : ps.length ≤ 1000) :
    Calls Try.prog 28 #[v] w fun e w' => ∃ u, e = .returned u ∧ Own w.heap.size w' u ps ∧ Below w.heap.size w w' := by
  have hv0 := hv
  obtain ⟨a, cap, rfl, hc1, hc2, hq⟩ := hv0
  rcases a with _ | ad
  · have h0 : ps = [] := by
      rcases hq with h | ⟨b, o, h, _⟩
      · exact h
      · cases h
    subst h0
    clear hv hq
    have he : ∀ w : World, (binOp .eql 25 (.slice none 0 cap) (.slice none 0 0)).run Try.prog w = .ok (.bool true) w := fun _ => rfl
    simp only [List.length_nil]
    go_enter Try.func28, Try.ntmps28
    go_wp2_with fail
    go_ret
    exact ⟨_, rfl, Own.nil _ _, by go_grown⟩
  · obtain ⟨m, hm⟩ : ∃ m, ps.length = m := ⟨_, rfl⟩
    have HV := Lib.hid hv
    rw [hm] at hn hc1 ⊢
    rw [hm] at HV
    have HM := Lib.hid hm
    clear hv hq hm
    have he : ∀ w : World, (binOp .eql 25 (.slice (some ad) m cap) (.slice none 0 0)).run Try.prog w = .ok (.bool false) w := fun _ => rfl
    go_enter Try.func28, Try.ntmps28
    have E := (Has.nil (Below.refl w.heap.size w)).push [] 24
    have hO : Own w.heap.size (w.alloc (.cells #[] 24)) (.slice (some ⟨w.heap.size, 0, none⟩) 0 0) [] := World.ownsRow_lit w #[] 0 (Nat.le_refl _) (by simp [maxLen]) rfl
    go_wp2_with (at_builtin; refine wpList_append_pts rfl _ _ rfl rfl hO rfl (HV.out.later E.low) (by simp [HM.out]; omega) (by simp) ?_)
    intro u w2 hO2 hG
    go_wp2_with fail
    go_ret
    exact ⟨_, rfl, hO2, E.low.grown hG E.low.size (fun k e => by simp [Value.ownBlock] at e; omega)⟩

/-- How a list stands when its first and last i points were exchanged. -/
def RevI (ps L : List (Int × Int)) (i : Nat) : Prop := L.length = ps.length ∧ ∀ k, k < ps.length → L[k]? = if k < i ∨ ps.length - i ≤ k then ps[ps.length - 1 - k]? else ps[k]?
theorem RevI.start (ps : List (Int × Int)) : RevI ps ps 0 := ⟨rfl, fun k hk => by rw [if_neg (by omega)]⟩
theorem RevI.next {ps L : List (Int × Int)} {i : Nat} {p q : Int × Int} (h : RevI ps L i) (hi : i + i + 1 < ps.length) (hp : L[i]? = some p) (hq : L[ps.length - 1 - i]? = some q) : RevI ps ((L.set i q).set (ps.length - 1 - i) p) (i + 1) := by
  obtain ⟨hl, hk⟩ := h
  refine ⟨by simp [hl], fun k hkn => ?_⟩
  have h1 := hk i (by omega)
  have h2 := hk (ps.length - 1 - i) (by omega)
  rw [if_neg (by omega), hp] at h1
  rw [if_neg (by omega), hq] at h2
  by_cases e2 : k = ps.length - 1 - i
  · subst e2
    rw [List.getElem?_set_self (by simp; omega), if_pos (by omega), h1]
    congr 1
    omega
  · rw [List.getElem?_set_ne (by omega)]
    by_cases e1 : k = i
    · subst e1
      rw [List.getElem?_set_self (by omega), if_pos (by omega), h2]
    · rw [List.getElem?_set_ne (by omega), hk k hkn]
      by_cases c : k < i ∨ ps.length - i ≤ k
      · rw [if_pos c, if_pos (by omega)]
      · rw [if_neg c, if_neg (by omega)]
theorem RevI.last {ps L : List (Int × Int)} {i : Nat} (h : RevI ps L i) (hi : ps.length ≤ i + i + 1) : L = ps.reverse := by
  obtain ⟨hl, hk⟩ := h
  apply List.ext_getElem?
  intro k
  by_cases hkn : k < ps.length
  · rw [hk k hkn, List.getElem?_reverse hkn]
    by_cases c : k < i ∨ ps.length - i ≤ k
    · rw [if_pos c]
    · rw [if_neg c]
      congr 1
      omega
  · rw [List.getElem?_eq_none (by omega), List.getElem?_eq_none (by simp; omega)]
theorem flat_set (L : List (Int × Int)) (i : Nat) (x y : Int) : ((flat L).set (i * 2) (.int .i64 x)).set (i * 2 + 1) (.int .i64 y) = flat (L.set i (x, y)) := by
  induction L generalizing i with
  | nil => simp [flat]
  | cons p t ih =>
    cases i with
    | zero => simp [flat]
    | succ i =>
      have := ih i
      rw [show (i + 1) * 2 = i * 2 + 1 + 1 by omega]
      simp only [flat, List.set_cons_succ, this]
theorem Own.set {b g c n : Nat} {w : World} {L : List (Int × Int)} (h : Own b w (.slice (some ⟨g, 0, none⟩) n c) L) (i : Nat) (x y : Int) :
    Own b ((w.setCell ⟨g, i * 2, none⟩ (.int .i64 x)).setCell ⟨g, i * 2 + 1, none⟩ (.int .i64 y)) (.slice (some ⟨g, 0, none⟩) n c) (L.set i (x, y)) := by
  unfold Own at *
  rw [List.length_set, ← flat_set]
  have e : n = L.length := by
    rcases h.2 with ⟨h2, _⟩ | ⟨k, cap, cur, h2, -⟩
    · cases h2
    · injection h2
  subst e
  exact (World.ownsRow.stored (World.ownsRow.stored h _ _).1 _ _).1
theorem Own.form {b : Nat} {w : World} {v : Value} {L : List (Int × Int)} (h : Own b w v L) (hl : 0 < L.length) : ∃ g c, v = .slice (some ⟨g, 0, none⟩) L.length c ∧ b ≤ g ∧ g < w.heap.size := by
  rcases h.2 with ⟨_, h2⟩ | ⟨k, cap, cur, rfl, h2, h3, -⟩
  · omega
  · exact ⟨k, cap, rfl, h2, (Array.getElem?_eq_some_iff.1 h3).1⟩
theorem Own.frozen {b g c n : Nat} {w : World} {L : List (Int × Int)} (h : Own b w (.slice (some ⟨g, 0, none⟩) n c) L) (j : Nat) : w.frozen? ⟨g, j, none⟩ = false := by
  rcases h.2 with ⟨h', _⟩ | ⟨g', cap', cur, h', _, hg, _⟩
  · cases h'
  · injection h' with e1 e2 e3
    injection e1 with e1
    injection e1 with e1
    subst e1
    exact frozen_of_row w g j cur 24 hg
end Go.Proofs.Ytmldgjhecoeldaa

namespace Go.Proofs.Ytmldgjhecoeldaa
open Go.RowKit Go.Lib

theorem grow_append {w W W' : World} {b : Nat} {v : Value} {ps : List (Int × Int)} (h : Grows w W) (ho : Own b W v ps) (hb : w.heap.size ≤ b) (hg : W.grownBy W' v.ownBlock) : Grows w W' :=
  Below.grown h hg h.size (fun k e => Nat.le_trans hb (World.ownsRow.lt ho k e).1)
theorem rev_next {ps : List (Int × Int)} {k : Nat} (h : k < ps.length) : ps.reverse.take (k + 1) = ps.reverse.take k ++ [pt ps (ps.length - 1 - k)] := by
  rw [List.take_add_one, List.getElem?_reverse h, at_pt (by omega)]
  rfl
end Go.Proofs.Ytmldgjhecoeldaa
