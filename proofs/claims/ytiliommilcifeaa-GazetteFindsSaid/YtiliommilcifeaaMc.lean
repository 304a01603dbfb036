/- A map that grows: its faces, ways and places are lists of the call's own; which numbers are expected. -/
import Derived.Test.YtiliommilcifeaaA13
namespace Go.Proofs.Ytiliommilcifeaa
open Go.RowKit Go.Lib Go.Sort

section
variable {α β : Type} {T : Ty α} {U : Ty β}
/-- Lists of elements of different kinds lie in different blocks. -/
theorem Own.apart {b : Nat} {w w' : World} {v u : Value} {xs : List α} {ys : List β} (h : Own T b w v xs) (g : Own U b w u ys) (hn : T.e ≠ U.e) (hg : w.grownBy w' u.ownBlock) : Own T b w' v xs := by
  refine World.ownsRow.kept h hg ?_
  cases hv : v.ownBlock with
  | none => exact .inl rfl
  | some k =>
    right
    intro e
    rcases h.2 with ⟨rfl, -⟩ | ⟨k1, cap, cur, rfl, -, h3, -⟩
    · simp [Value.ownBlock] at hv
    · rcases g.2 with ⟨rfl, -⟩ | ⟨k2, cap2, cur2, rfl, -, g3, -⟩
      · simp [Value.ownBlock] at e
      · simp only [Value.ownBlock, Option.some.injEq] at hv e
        subst hv; subst e
        rw [h3] at g3
        injection g3 with g3
        injection g3 with _ g4 _
        exact hn g4
theorem Has.grown {w0 w w' : World} {M : Nat} {cs : List Value} {v : Value} {xs : List α} (h : Has w0 [(M, cs)] w) (ho : Own T (M + 1) w v xs) (hg : w.grownBy w' v.ownBlock) : Has w0 [(M, cs)] w' :=
  h.below (Below.grown (Below.refl _ _) hg (h.lt _ (.head _)) (fun _ e => (ho.lt e).1))
theorem Own.stored {b : Nat} {w : World} {v u : Value} {xs : List α} {M j : Nat} (h : Own T b w v xs) (hM : M < b) : Own T b (w.setCell ⟨M, j, none⟩ u) v xs := ownsRow_setCell_below h hM u
end

/-- A map at M, and names. -/
structure St (w0 : World) (M : Nat) (vf vw vp vn : Value) (fs ws : List Fc) (ns : List (List UInt8)) (wx : World) : Prop where
  h : Has w0 [(M, [.slice none 0 0, vf, vw, vp])] wx
  f : Own tF (M + 1) wx vf fs
  w : Own tW (M + 1) wx vw ws
  n : Own tS (M + 1) wx vn ns
section
variable {w0 wx w' : World} {M : Nat} {vf vw vp vn v' : Value} {fs ws fs' : List Fc} {ns ns' : List (List UInt8)} {qs qs' : List Pl}
theorem St.later (s : St w0 M vf vw vp vn fs ws ns wx) (g : Grows wx w') : St w0 M vf vw vp vn fs ws ns w' := ⟨s.h.later g, s.f.later g, s.w.later g, s.n.later g⟩
theorem St.names (s : St w0 M vf vw vp vn fs ws ns wx) (ho : Own tS (M + 1) w' v' ns') (hg : wx.grownBy w' vn.ownBlock) : St w0 M vf vw vp v' fs ws ns' w' :=
  ⟨s.h.grown s.n hg, s.f.apart s.n (by decide) hg, s.w.apart s.n (by decide) hg, ho⟩
theorem St.faces (s : St w0 M vf vw vp vn fs ws ns wx) (ho : Own tF (M + 1) w' v' fs') (hg : wx.grownBy w' vf.ownBlock) : St w0 M v' vw vp vn fs' ws ns (w'.setCell ⟨M, 1, none⟩ v') :=
  ⟨(s.h.grown s.f hg).set 1 (by simp) v', ho.stored (by omega), (s.w.apart s.f (by decide) hg).stored (by omega), (s.n.apart s.f (by decide) hg).stored (by omega)⟩
theorem St.ways (s : St w0 M vf vw vp vn fs ws ns wx) (ho : Own tW (M + 1) w' v' fs') (hg : wx.grownBy w' vw.ownBlock) : St w0 M vf v' vp vn fs fs' ns (w'.setCell ⟨M, 2, none⟩ v') :=
  ⟨(s.h.grown s.w hg).set 2 (by simp) v', (s.f.apart s.w (by decide) hg).stored (by omega), ho.stored (by omega), (s.n.apart s.w (by decide) hg).stored (by omega)⟩
theorem St.places (s : St w0 M vf vw vp vn fs ws ns wx) (hq : Own tP (M + 1) wx vp qs) (ho : Own tP (M + 1) w' v' qs') (hg : wx.grownBy w' vp.ownBlock) : St w0 M vf vw v' vn fs ws ns (w'.setCell ⟨M, 3, none⟩ v') ∧ Own tP (M + 1) (w'.setCell ⟨M, 3, none⟩ v') v' qs' :=
  ⟨⟨(s.h.grown hq hg).set 3 (by simp) v', (s.f.apart hq (by decide) hg).stored (by omega), (s.w.apart hq (by decide) hg).stored (by omega), (s.n.apart hq (by decide) hg).stored (by omega)⟩, ho.stored (by omega)⟩
/-- What a store into the map wants. -/
theorem St.cellF (s : St w0 M vf vw vp vn fs ws ns wx) (hg : wx.grownBy w' vf.ownBlock) : w'.cell? ⟨M, 1, none⟩ = some vf ∧ w'.frozen? ⟨M, 1, none⟩ = false :=
  ⟨(s.h.grown s.f hg).fact (.head _) (i := 1) rfl, (s.h.grown s.f hg).free (.head _) (i := 1) (v := vf) rfl⟩
theorem St.cellW (s : St w0 M vf vw vp vn fs ws ns wx) (hg : wx.grownBy w' vw.ownBlock) : w'.cell? ⟨M, 2, none⟩ = some vw ∧ w'.frozen? ⟨M, 2, none⟩ = false :=
  ⟨(s.h.grown s.w hg).fact (.head _) (i := 2) rfl, (s.h.grown s.w hg).free (.head _) (i := 2) (v := vw) rfl⟩
theorem St.cellP (s : St w0 M vf vw vp vn fs ws ns wx) (hq : Own tP (M + 1) wx vp qs) (hg : wx.grownBy w' vp.ownBlock) : w'.cell? ⟨M, 3, none⟩ = some vp ∧ w'.frozen? ⟨M, 3, none⟩ = false :=
  ⟨(s.h.grown hq hg).fact (.head _) (i := 3) rfl, (s.h.grown hq hg).free (.head _) (i := 3) (v := vp) rfl⟩
end

/-! ### GazetteNamed's lists -/
def nmAt (L : List Pl) (k : Nat) : List UInt8 := ((L[k]?).map Pl.nm).getD []
theorem nmAt_is {L : List Pl} {k : Nat} {p : Pl} (h : L[k]? = some p) : nmAt L k = p.nm := by unfold nmAt; rw [h]; rfl
def sel (r : Nat) (L : List Pl) : Nat → List Fc
  | 0 => []
  | k + 1 => sel r L k ++ (if k % 3 = r then [⟨k, nmAt L k⟩] else [])
def selP (L : List Pl) : Nat → List Pl
  | 0 => []
  | k + 1 => selP L k ++ (if k % 3 = 2 then [⟨k, 0, 0, [], nmAt L k, 0, 0⟩] else [])
theorem sel_length (r : Nat) (L : List Pl) : ∀ k, (sel r L k).length ≤ k
  | 0 => Nat.le_refl _
  | k + 1 => by
    have := sel_length r L k
    unfold sel
    rw [List.length_append]
    split <;> simp <;> omega
theorem selP_length (L : List Pl) : ∀ k, (selP L k).length ≤ k
  | 0 => Nat.le_refl _
  | k + 1 => by
    have := selP_length L k
    unfold selP
    rw [List.length_append]
    split <;> simp <;> omega
def wantI (L : List Pl) (s : List UInt8) : Nat → List Int
  | 0 => []
  | k + 1 => wantI L s k ++ (if nmAt L k = s ∧ s ≠ [] then [(k : Int)] else [])
theorem wantI_length (L : List Pl) (s : List UInt8) : ∀ k, (wantI L s k).length ≤ k
  | 0 => Nat.le_refl _
  | k + 1 => by
    have := wantI_length L s k
    unfold wantI
    rw [List.length_append]
    split <;> simp <;> omega
theorem wantI_lt (L : List Pl) (s : List UInt8) : ∀ k, ∀ x ∈ wantI L s k, x < (k : Int)
  | 0, x, h => by simp [wantI] at h
  | k + 1, x, h => by
    unfold wantI at h
    rcases List.mem_append.1 h with h | h
    · have := wantI_lt L s k x h; omega
    · split at h
      · simp at h; omega
      · simp at h
theorem wantI_sorted (L : List Pl) (s : List UInt8) : ∀ k, (wantI L s k).Pairwise (fun x y => x ≤ y)
  | 0 => .nil
  | k + 1 => by
    unfold wantI
    rw [List.pairwise_append]
    refine ⟨wantI_sorted L s k, ?_, fun x hx y hy => ?_⟩
    · split
      · exact List.pairwise_singleton _ _
      · exact .nil
    · have := wantI_lt L s k x hx
      split at hy
      · simp at hy; omega
      · simp at hy
theorem wantI_nil (L : List Pl) : ∀ k, wantI L [] k = []
  | 0 => rfl
  | k + 1 => by unfold wantI; rw [wantI_nil L k]; simp
theorem numsF_append (a b : List Fc) (s : List UInt8) : numsF (a ++ b) s = numsF a s ++ numsF b s := by simp [numsF]
theorem numsP_append (a b : List Pl) (s : List UInt8) : numsP (a ++ b) s = numsP a s ++ numsP b s := by simp [numsP]
theorem perm_mid {α : Type} (a b c x : List α) : ((a ++ x) ++ b ++ c).Perm (a ++ b ++ c ++ x) := by
  rw [List.append_assoc, List.append_assoc, List.append_assoc a b c, List.append_assoc]
  refine List.Perm.append_left a ?_
  exact List.perm_append_comm
theorem perm_mid2 {α : Type} (a b c x : List α) : (a ++ (b ++ x) ++ c).Perm (a ++ b ++ c ++ x) := by
  rw [← List.append_assoc a b x]
  rw [List.append_assoc (a ++ b) x c, List.append_assoc (a ++ b) c x]
  exact List.Perm.append_left _ List.perm_append_comm
theorem want_perm (L : List Pl) (s : List UInt8) (hs : s ≠ []) : ∀ k, (numsF (sel 1 L k) s ++ numsF (sel 0 L k) s ++ numsP (selP L k) s).Perm (wantI L s k)
  | 0 => .nil
  | k + 1 => by
    have ih := want_perm L s hs k
    have hX : ∀ (b : Bool), (if nmAt L k = s ∧ s ≠ [] then [(k : Int)] else []) = (if nmAt L k = s then [(k : Int)] else []) := fun _ => by
      by_cases e : nmAt L k = s
      · rw [if_pos ⟨e, hs⟩, if_pos e]
      · rw [if_neg (fun q => e q.1), if_neg e]
    unfold wantI
    rw [hX true]
    have hm : k % 3 = 0 ∨ k % 3 = 1 ∨ k % 3 = 2 := by omega
    rcases hm with e | e | e
    · rw [sel, sel, selP, if_neg (by omega), if_pos e, if_neg (by omega), List.append_nil, List.append_nil, numsF_append]
      have : numsF [⟨(k : Int), nmAt L k⟩] s = (if nmAt L k = s then [(k : Int)] else []) := by
        unfold numsF; by_cases q : nmAt L k = s <;> simp [q]
      rw [this]
      exact (perm_mid2 _ _ _ _).trans (ih.append_right _)
    · rw [sel, sel, selP, if_pos e, if_neg (by omega), if_neg (by omega), List.append_nil, List.append_nil, numsF_append]
      have : numsF [⟨(k : Int), nmAt L k⟩] s = (if nmAt L k = s then [(k : Int)] else []) := by
        unfold numsF; by_cases q : nmAt L k = s <;> simp [q]
      rw [this]
      exact (perm_mid _ _ _ _).trans (ih.append_right _)
    · rw [sel, sel, selP, if_neg (by omega), if_neg (by omega), if_pos e, List.append_nil, List.append_nil, numsP_append]
      have : numsP [⟨(k : Int), 0, 0, [], nmAt L k, 0, 0⟩] s = (if nmAt L k = s then [(k : Int)] else []) := by
        unfold numsP; by_cases q : nmAt L k = s <;> simp [q]
      rw [this, ← List.append_assoc]
      exact ih.append_right _
theorem named_want (L : List Pl) (s : List UInt8) (k : Nat) : namedI (sel 1 L k) (sel 0 L k) (selP L k) s = wantI L s k := by
  unfold namedI
  by_cases hs : s = []
  · rw [if_pos hs, hs, wantI_nil]
  · rw [if_neg hs]
    exact (sortI_eq (want_perm L s hs k).symm (wantI_sorted L s k)).symm
end Go.Proofs.Ytiliommilcifeaa
