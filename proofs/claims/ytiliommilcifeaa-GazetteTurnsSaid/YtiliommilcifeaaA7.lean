/- The places that Find found are put in order. -/
import Derived.Test.YtiliommilcifeaaA4
import Derived.Test.YtiliommilcifeaaSi
import Derived.Lib.OwnBridge
namespace Go.Proofs.Ytiliommilcifeaa
open Go.RowKit Go.Lib Go.Sort Go.Shelf

/-- Places with short names. -/
abbrev SPl : Type := { p : Pl // Fits p.nm }
instance : Inhabited SPl := ⟨⟨default, by unfold Fits; decide⟩⟩
def spc (p : SPl) : List Value := p.1.cells
def tQ : Ty SPl := ⟨spc, 7, 26, 36, .agg #[.int .i64 0, .int .i64 0, .int .i64 0, .string ByteArray.empty, .string ByteArray.empty, .int .i64 0, .int .i64 0], 72⟩
theorem tQ_ok : tQ.Ok := ⟨fun _ => rfl, fun x v h => tP_ok.h1 x.1 v h, by decide, by decide, Try.underlying26, by kernel_rfl, rfl⟩
theorem flat_tQ (xs : List SPl) : xs.flatMap tQ.enc = (xs.map Subtype.val).flatMap tP.enc := by
  rw [List.flatMap_map]; rfl
theorem own_tQ {b : Nat} {w : World} {v : Value} {xs : List SPl} (h : Own tP b w v (xs.map Subtype.val)) : Own tQ b w v xs := by
  unfold Own at h ⊢
  rw [List.length_map] at h
  rw [flat_tQ]; exact h
theorem own_tP {b : Nat} {w : World} {v : Value} {xs : List SPl} (h : Own tQ b w v xs) : Own tP b w v (xs.map Subtype.val) := by
  unfold Own at h ⊢
  rw [List.length_map]
  rw [flat_tQ] at h; exact h
def cmpQ (p q : SPl) : Int := cmpP p.1 q.1
theorem cmpQ_lt (p q : SPl) : ltOf cmpQ p q = !leK q.1.key p.1.key := by
  unfold ltOf cmpQ cmpP leK
  rw [Bool.eq_iff_iff]
  simp only [decide_eq_true_eq, Bool.not_eq_true', decide_eq_false_iff_not]
  rw [cmpK_rev p.1.key q.1.key]; omega
theorem cmpQ_swo : SWO (ltOf cmpQ) where
  irrefl x := by rw [cmpQ_lt, leK_refl]; rfl
  trans x y z h g := by
    rw [cmpQ_lt] at h g ⊢
    simp only [Bool.not_eq_true'] at h g ⊢
    cases hq : leK z.1.key x.1.key
    · rfl
    · exfalso
      rcases leK_total x.1.key y.1.key with q | q
      · have := leK_trans hq q; rw [g] at this; cases this
      · rw [h] at q; cases q
  ntrans x y z h g := by
    rw [cmpQ_lt] at h g ⊢
    simp only [Bool.not_eq_false'] at h g ⊢
    exact leK_trans g h
theorem q_cmp (g n : Nat) (w : World) : CmpLays Try.prog 33 #[] spc 7 cmpQ g 0 n w := by
  intro m os dk _ x y
  refine (cmpp_any x.1 y.1 x.2 _).mono ?_
  rintro e w' ⟨rfl, q, os', rfl⟩
  exact ⟨rfl, q, os', rfl⟩
theorem flat_get {α : Type} [Inhabited α] {T : Ty α} (hT : T.Ok) (xs : List α) (j : Nat) (h : j < xs.length * T.k) : (xs.flatMap T.enc)[j]? = some ((T.enc xs.toArray[j / T.k]!)[j % T.k]!) := by
  have hk := hT.hpos
  have h1 : j / T.k < xs.length := by rw [Nat.div_lt_iff_lt_mul hk]; exact h
  have h2 : j % T.k < (T.enc xs.toArray[j / T.k]!).length := by rw [hT.hk]; exact Nat.mod_lt _ hk
  have h3 : xs[j / T.k]? = some xs.toArray[j / T.k]! := by
    rw [getElem!_pos xs.toArray (j / T.k) (by simpa using h1), List.getElem?_eq_getElem h1]; rfl
  have := flat_at hT h3 (List.getElem?_eq_getElem h2)
  rw [Nat.mul_comm, Nat.div_add_mod] at this
  rw [this, getElem!_pos (T.enc xs.toArray[j / T.k]!) (j % T.k) h2]
theorem holds_own {b g cap n : Nat} {w : World} {xs : List SPl} (h : w.ownsRow b 36 7 (.slice (some ⟨g, 0, none⟩) n cap) n (xs.flatMap tQ.enc)) (hn : xs.length = n) : HoldsK spc 7 w g 0 xs.toArray := by
  intro j hj
  rw [size_flatK] at hj
  have hj' : j < n * 7 := by rw [← hn]; simpa using hj
  rw [Nat.zero_add]
  refine ⟨?_, World.ownsRow.frozenAt h j⟩
  rw [World.ownsRow.cellAt h j hj', get_flatK _ _ _ _ hj]
  exact flat_get tQ_ok xs j (by show j < xs.length * 7; omega)
theorem own_put {b g cap n q : Nat} {w : World} {xs ys : List SPl} (h : w.ownsRow b 36 7 (.slice (some ⟨g, 0, none⟩) n cap) n (xs.flatMap tQ.enc)) (hn : ys.length = n) :
    (putRowK spc 7 (Sort.ahead w q) g 0 ys.toArray).ownsRow b 36 7 (.slice (some ⟨g, 0, none⟩) n cap) n (ys.flatMap tQ.enc) := by
  rcases h.2 with ⟨e0, _⟩ | ⟨g', cap', cur, e0, hb, hg, hc, hm, hs, ht⟩
  · cases e0
  · injection e0 with e1 _ e3
    injection e1 with e1
    injection e1 with e1
    subst e1; subst e3
    have hfl : (ys.flatMap tQ.enc).length = n * 7 := by rw [flat_length tQ_ok, hn]; rfl
    refine ⟨hfl, .inr ⟨g, cap, putCells id 0 (flatK spc 7 ys.toArray) cur, rfl, hb, ?_, hc, hm, by simpa [putCells] using hs, ?_⟩⟩
    · simp [putRowK, putRow, mapBlock, Sort.ahead, Array.getElem?_modify, hg, onCells]
    · apply List.ext_getElem?
      intro j
      rw [List.getElem?_take, Array.getElem?_toList]
      by_cases hj : j < n * 7
      · have hjc : j < cur.size := by omega
        rw [if_pos hj, putCells, Array.getElem?_mapIdx, Array.getElem?_eq_getElem hjc, Option.map_some]
        rw [if_pos ⟨Nat.zero_le _, by rw [size_flatK]; simp; omega⟩, flat_get tQ_ok ys j (by show j < ys.length * 7; omega)]
        rw [Nat.sub_zero, get_flatK _ _ _ _ (by simp; omega)]
        rfl
      · rw [if_neg hj, List.getElem?_eq_none (by omega)]
theorem sortp_any {b : Nat} {v : Value} {ps : List SPl} (w : World) (h : Own tQ b w v ps) (hb : b ≤ w.heap.size) (hlen : ps.length ≤ 100000) :
    Calls Try.prog 32 #[v, .func (.func 33) #[] #[]] w fun e w' => e = .returned (.tuple #[]) ∧ ∃ qs : List SPl, Own tQ b w' v qs ∧ qs.Perm ps ∧ qs.Pairwise (fun x y => leK x.1.key y.1.key = true) ∧ Below b w w' := by
  have hh := h
  rcases h.2 with ⟨rfl, h2⟩ | ⟨g, cap, cur, rfl, hg, h3, h4, h5, h6, h7⟩
  · obtain rfl : ps = [] := List.eq_nil_of_length_eq_zero h2
    refine (Try.slices_SortFunc_none none 0 _ w).mono ?_
    rintro e w' ⟨rfl, rfl⟩
    exact ⟨rfl, [], hh, .nil, .nil, Below.refl _ _⟩
  · have hlt : g < w.heap.size := (Array.getElem?_eq_some_iff.1 h3).1
    have hH := holds_own hh rfl
    have hsz : ps.toArray.size = ps.length := by simp
    have hs := Try.slices_SortFunc spc (fun _ => rfl) tQ_ok.h1 cmpQ cmpQ_swo 33 #[] g 0 cap ps.toArray w (enters_of Try.func33 (by kernel_rfl) rfl) (q_cmp g _ w) hH hlt (by rw [hsz]; omega)
    rw [hsz] at hs
    refine hs.mono ?_
    rintro e w' ⟨rfl, d', n, os, hP, hS, hw⟩
    have hs' : d'.size = ps.length := hP.1.trans hsz
    have hperm : d'.toList.Perm ps := by
      have := hP.2.2
      rw [Array.extract_eq_self_of_le (by omega), Array.extract_eq_self_of_le (by simp)] at this
      simpa using this
    have o1 := own_put (q := n) (ys := d'.toList) hh (by simp [hs'])
    have e1 : d'.toList.toArray = d' := by simp
    rw [e1] at o1
    have g1 : Grows (putRowK spc 7 (Sort.ahead w n) g 0 d') w' := hw ▸ grows_grow _ _
    refine ⟨rfl, d'.toList, ?_, hperm, ?_, ?_⟩
    · have hl : d'.toList.length = ps.length := by simp [hs']
      have o2 : Own tQ b (putRowK spc 7 (Sort.ahead w n) g 0 d') (.slice (some ⟨g, 0, none⟩) ps.length cap) d'.toList := by
        unfold Own; rw [hl]; exact o1
      exact o2.later g1
    · rw [List.pairwise_iff_getElem]
      intro i j hi hj hij
      have := hS i j (Nat.zero_le _) hij (by rw [← hs']; simpa using hj)
      rw [cmpQ_lt] at this
      simp only [Bool.not_eq_false'] at this
      rw [getElem!_pos d' i (by simpa using hi), getElem!_pos d' j (by simpa using hj)] at this
      simpa using this
    · have b1 : Below b w (putRowK spc 7 (Sort.ahead w n) g 0 d') := below_putRow (Below.refl b w) hg
      exact b1.trans (g1.mono (Nat.le_trans hb b1.size))
end Go.Proofs.Ytiliommilcifeaa
