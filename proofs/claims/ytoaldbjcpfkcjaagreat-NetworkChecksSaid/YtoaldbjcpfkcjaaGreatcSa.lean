/- Comparing lists of numbers; groups in order. -/
import Derived.Test.YtoaldbjcpfkcjaaGreatcGa
namespace Go.Proofs.YtoaldbjcpfkcjaaGreat
open Go.RowKit Go.Lib Go.Sort Go.Shelf

def cmpI (x y : Int) : Int := if x < y then -1 else if y < x then 1 else 0
theorem cmpI_zero {x y : Int} (h : cmpI x y = 0) : x = y := by
 unfold cmpI at h
 split at h
 ·omega
 ·split at h <;> omega
def cmpL : List Int → List Int → Int
 | [], [] => 0
 | [], _ :: _ => -1
 | _ :: _, [] => 1
 | x :: xs, y :: ys => if x < y then -1 else if y < x then 1 else cmpL xs ys
theorem cmpL_neg : ∀ a b, cmpL a b < 0 ↔ lexle b a = false
 | [], [] => by simp [cmpL, lexle]
 | [], _ :: _ => by simp [cmpL, lexle]
 | _ :: _, [] => by simp [cmpL, lexle]
 | x :: xs, y :: ys => by
  unfold cmpL lexle
  by_cases h1 : x < y
  ·rw [if_pos h1, if_neg (by omega)]; simp; omega
  ·rw [if_neg h1]
   by_cases h2 : y < x
   ·rw [if_pos h2, if_neg (by omega)]; simp; omega
   ·have e : x = y := by omega
    subst e
    rw [if_neg h2, if_pos rfl]; exact cmpL_neg xs ys
theorem cmpL_drop : ∀ {k : Nat} {a b : List Int}, k ≤ a.length → k ≤ b.length → a.take k = b.take k → cmpL a b = cmpL (a.drop k) (b.drop k)
 | 0, _, _, _, _, _ => rfl
 | k + 1, [], _, h, _, _ => by simp at h
 | k + 1, _ :: _, [], _, h, _ => by simp at h
 | k + 1, x :: xs, y :: ys, h1, h2, h => by
  simp only [List.take_succ_cons, List.cons.injEq] at h
  obtain ⟨rfl, h⟩ := h
  rw [cmpL, if_neg (by omega), if_neg (by omega)]
  simp only [List.length_cons] at h1 h2
  exact cmpL_drop (by omega) (by omega) h
theorem cmpL_at {k : Nat} {a b : List Int} {x y : Int} (h : a.take k = b.take k) (ha : a[k]? = some x) (hb : b[k]? = some y) : cmpL a b = if cmpI x y = 0 then cmpL (a.drop (k + 1)) (b.drop (k + 1)) else cmpI x y := by
 obtain ⟨a1, a2⟩ := List.getElem?_eq_some_iff.1 ha
 obtain ⟨b1, b2⟩ := List.getElem?_eq_some_iff.1 hb
 rw [cmpL_drop (by omega) (by omega) h, List.drop_eq_getElem_cons a1, List.drop_eq_getElem_cons b1, a2, b2, cmpL]
 unfold cmpI
 by_cases h1 : x < y
 ·simp [h1]
 ·by_cases h2 : y < x
  ·simp [h1, h2]
  ·simp [h1, h2]
theorem cmpL_over {k : Nat} {a b : List Int} (h : a.take k = b.take k) (hk : k < a.length) (hb : b.length = k) : cmpL a b = 1 := by
 rw [cmpL_drop (by omega) (by omega) h, List.drop_eq_getElem_cons hk, List.drop_of_length_le (l := b) (by omega)]; rfl
theorem cmpL_end {a b : List Int} (h : a.take a.length = b.take a.length) (hb : a.length ≤ b.length) : cmpL a b = if a.length < b.length then -1 else 0 := by
 rw [cmpL_drop (Nat.le_refl _) hb h, List.drop_of_length_le (Nat.le_refl _)]
 by_cases hl : a.length < b.length
 ·rw [if_pos hl, List.drop_eq_getElem_cons hl]; rfl
 ·rw [if_neg hl, List.drop_of_length_le (by omega)]; rfl
theorem take_next {a b : List Int} {k : Nat} {x : Int} (h : a.take k = b.take k) (ha : a[k]? = some x) (hb : b[k]? = some x) : a.take (k + 1) = b.take (k + 1) := by
 obtain ⟨a1, a2⟩ := List.getElem?_eq_some_iff.1 ha
 obtain ⟨b1, b2⟩ := List.getElem?_eq_some_iff.1 hb
 rw [List.take_succ_eq_append_getElem a1, List.take_succ_eq_append_getElem b1, h, a2, b2]

set_option maxHeartbeats 400000 in
theorem isnan_any (x : Int) (w : World) : Calls Tryz.prog 112 #[.int .i64 x] w fun e w' => e = .returned (.bool false) ∧ w = w' := by
 go_enter Tryz.func112, Tryz.ntmps112
 go_wp2
 go_ret
 exact ⟨rfl, rfl⟩
set_option maxHeartbeats 400000 in
theorem compare_any (x y : Int) (w : World) : Calls Tryz.prog 69 #[.int .i64 x, .int .i64 y] w fun e w' => e = .returned (.int .i64 (cmpI x y)) ∧ w = w' := by
 unfold cmpI
 by_cases h1 : x < y
 ·have b1 : decide (x < y) = true := decide_eq_true h1
  rw [if_pos h1]
  go_enter Tryz.func69, Tryz.ntmps69
  go_wp2_with (go_at_call 112; refine (isnan_any _ _).mono ?_; rintro e w' ⟨rfl, rfl⟩)
  go_ret
  exact ⟨rfl, rfl⟩
 ·rw [if_neg h1]
  by_cases h2 : y < x
  ·rw [if_pos h2]
   go_enter Tryz.func69, Tryz.ntmps69
   go_wp2_with (go_at_call 112; refine (isnan_any _ _).mono ?_; rintro e w' ⟨rfl, rfl⟩)
   go_ret
   exact ⟨rfl, rfl⟩
  ·rw [if_neg h2]
   go_enter Tryz.func69, Tryz.ntmps69
   go_wp2_with (go_at_call 112; refine (isnan_any _ _).mono ?_; rintro e w' ⟨rfl, rfl⟩)
   go_ret
   exact ⟨rfl, rfl⟩
theorem compare_is (x y r : Int) (h : cmpI x y = r) (w : World) : Calls Tryz.prog 69 #[.int .i64 x, .int .i64 y] w fun e w' => e = .returned (.int .i64 r) ∧ w = w' := h ▸ compare_any x y w
theorem RowN.form {w : World} {v : Value} {xs : List Int} (h : RowN w v xs) : ∃ a n c, v = .slice a n c ∧ xs.length = n ∧ n ≤ c ∧ (c : Int) ≤ 9223372036854775807 ∧ RowN w (.slice a n c) xs := by
 have h0 := h
 obtain ⟨a, c, rfl, h1, h2, -⟩ := h0
 exact ⟨a, _, c, rfl, rfl, h1, h2, h⟩
set_option maxRecDepth 100000 in
set_option maxHeartbeats 1000000 in
theorem comparel_any (u v : Value) (xs ys : List Int) (w : World) (hu : RowN w u xs) (hv : RowN w v ys) :
  Calls Tryz.prog 42 #[u, v] w fun e w' => e = .returned (.int .i64 (cmpL xs ys)) ∧ w = w' := by
 obtain ⟨a, n, c, rfl, hn, hc1, hc2, hu⟩ := hu.form
 obtain ⟨a', m, c', rfl, hm, hd1, hd2, hv⟩ := hv.form
 have HU := Lib.hid hu
 have HV := Lib.hid hv
 have HN := Lib.hid hn
 have HM := Lib.hid hm
 clear hu hv hn hm
 go_enter Tryz.func42, Tryz.ntmps42
 go_wp2_with fail
 go_loop [11] (fun i => ∃ k : Nat, k ≤ n ∧ k ≤ m ∧ i = .int .i64 k ∧ Hid (xs.take k = ys.take k)) (fun i => n - (RowKit.intOf i).toNat)
 case atStart => exact ⟨0, Nat.zero_le _, Nat.zero_le _, rfl, Lib.hid rfl⟩
 case round =>
  obtain ⟨k, hk, hk2, rfl, HT⟩ := hrel
  by_cases hlt : k < n
  ·obtain ⟨b, o, rfl, hq⟩ := HU.out.spot (by rw [HN.out]; omega)
   obtain ⟨x, hx⟩ : ∃ x, xs[k]? = some x := ⟨_, List.getElem?_eq_getElem (by rw [HN.out]; exact hlt)⟩
   have c0 := hq k x hx
   have HX := Lib.hid hx
   clear hq hx
   have b1 : (k : Int) < n := by omega
   have b2 : (0 : Int) ≤ k := by omega
   by_cases hlm : k < m
   ·obtain ⟨b', o', rfl, hq'⟩ := HV.out.spot (by rw [HM.out]; omega)
    obtain ⟨y, hy⟩ : ∃ y, ys[k]? = some y := ⟨_, List.getElem?_eq_getElem (by rw [HM.out]; exact hlm)⟩
    have d0 := hq' k y hy
    have HY := Lib.hid hy
    clear hq' hy
    have b3 : (k : Int) < m := by omega
    obtain ⟨r, hr⟩ : ∃ r, cmpI x y = r := ⟨_, rfl⟩
    have HR := Lib.hid hr
    clear hr
    have HC := Lib.hid (compare_is x y r HR.out w)
    by_cases h0 : r = 0
    ·have z0 : (r == 0) = true := by simpa using h0
     have HE := Lib.hid (show x = y from cmpI_zero (by rw [HR.out, h0]))
     clear h0
     go_wp2_with fail
     refine HC.out.mono ?_
     rintro e w2 ⟨rfl, rfl⟩
     go_wp2_with fail
     go_round
     case rel => exact ⟨k + 1, by omega, by omega, by go_num, Lib.hid (take_next HT.out HX.out (by rw [HE.out]; exact HY.out))⟩
     case measure => simp [RowKit.intOf]; omega
    ·have z0 : (r == 0) = false := by simpa using h0
     have HE := Lib.hid (show cmpL xs ys = r from by rw [cmpL_at HT.out HX.out HY.out, HR.out, if_neg h0])
     clear h0
     go_wp2_with fail
     refine HC.out.mono ?_
     rintro e w2 ⟨rfl, rfl⟩
     go_wp2_with fail
     go_ret
     exact ⟨ret_i HE.out.symm, rfl⟩
   ·have HE := Lib.hid (cmpL_over HT.out (by rw [HN.out]; exact hlt) (by rw [HM.out]; omega))
    have b3 : (m : Int) ≤ k := by omega
    go_wp2_with fail
    go_ret
    exact ⟨ret_i HE.out.symm, rfl⟩
  ·obtain rfl : k = n := by omega
   have HE := cmpL_end (a := xs) (b := ys) (by rw [HN.out]; exact HT.out) (by rw [HN.out, HM.out]; exact hk2)
   rw [HN.out, HM.out] at HE
   by_cases hl : k < m
   ·rw [if_pos hl] at HE
    have HX := Lib.hid HE
    clear HE
    have b3 : decide ((k : Int) < m) = true := decide_eq_true (by omega)
    go_wp2_with fail
    go_ret
    exact ⟨ret_i HX.out.symm, rfl⟩
   ·rw [if_neg hl] at HE
    have HX := Lib.hid HE
    clear HE
    have b3 : decide ((k : Int) < m) = false := decide_eq_false (by omega)
    go_wp2_with fail
    go_ret
    exact ⟨ret_i HX.out.symm, rfl⟩

/-! ### groups are put in order -/
theorem heap_putRow {α : Type} [Inhabited α] {enc : α → Value} {w : World} {g q : Nat} {d : Array α} {k : Nat} (h : k ≠ g) : (putRow enc (Sort.ahead w q) g 0 d).heap[k]? = w.heap[k]? := by
 simp [putRow, mapBlock, Sort.ahead, Array.getElem?_modify, show g ≠ k from fun e => h e.symm]
theorem size_putRow {α : Type} [Inhabited α] {enc : α → Value} {w : World} {g q : Nat} {d : Array α} : (putRow enc (Sort.ahead w q) g 0 d).heap.size = w.heap.size := by
 simp [putRow, mapBlock, Sort.ahead]
/-- A list of numbers of the call's own, by where it lies and what it holds. -/
abbrev Lst (b : Nat) (w : World) : Type := { p : Value × List Int // OwnN b w p.1 p.2 }
instance (b : Nat) (w : World) : Inhabited (Lst b w) := ⟨⟨(.slice none 0 0, []), OwnN.nil b w⟩⟩
def Lst.v {b : Nat} {w : World} (x : Lst b w) : Value := x.1.1
theorem lst_one {b : Nat} {w : World} : OneCell (Lst.v (b := b) (w := w)) := fun x => by
 obtain ⟨⟨v, xs⟩, h⟩ := x
 rcases h.2 with ⟨q, -⟩ | ⟨k, cap, cur, q, -⟩
 ·simp only at q; subst q; rfl
 ·simp only at q; subst q; rfl
def cmpX {b : Nat} {w : World} (x y : Lst b w) : Int := cmpL x.1.2 y.1.2
theorem cmpX_lt {b : Nat} {w : World} (x y : Lst b w) : ltOf cmpX x y = !lexle y.1.2 x.1.2 := by
 unfold ltOf cmpX
 rw [Bool.eq_iff_iff]
 simp only [decide_eq_true_eq, Bool.not_eq_true']
 exact cmpL_neg _ _
theorem cmpX_swo {b : Nat} {w : World} : SWO (ltOf (cmpX (b := b) (w := w))) where
 irrefl x := by rw [cmpX_lt, lexle_refl]; rfl
 trans x y z h g := by
  rw [cmpX_lt] at h g ⊢
  simp only [Bool.not_eq_true'] at h g ⊢
  cases hq : lexle z.1.2 x.1.2
  ·rfl
  ·exfalso
   rcases lexle_total x.1.2 y.1.2 with q | q
   ·have := lexle_trans hq q; rw [g] at this; cases this
   ·rw [h] at q; cases q
 ntrans x y z h g := by
  rw [cmpX_lt] at h g ⊢
  simp only [Bool.not_eq_false'] at h g ⊢
  exact lexle_trans g h
theorem lst_cmp {b : Nat} {w : World} {g n c : Nat} {us : List Value} (hh : w.ownsRow b 22 1 (.slice (some ⟨g, 0, none⟩) n c) n us) : CmpLays1 Tryz.prog 42 #[] (Lst.v (b := b) (w := w)) cmpX g 0 n w := by
 intro m os dk _ x y
 have keep : ∀ z : Lst b w, RowN (sortWorld Lst.v w g 0 m dk os) z.v z.1.2 := fun z => by
  have hz := z.2
  have h1 : OwnN b (putRow Lst.v (Sort.ahead w m) g 0 dk) z.v z.1.2 := ownsRow_same hz fun k e => heap_putRow (fun e2 => by subst e2; exact kind_ne hh hz rfl e)
  exact (h1.later (grows_grow _ os)).row
 refine (comparel_any x.v y.v x.1.2 y.1.2 _ (keep x) (keep y)).mono ?_
 rintro e w' ⟨rfl, rfl⟩
 exact ⟨rfl, 0, #[], by rw [grow_empty]; rfl⟩
theorem inner_lst {b : Nat} {w : World} {us : List Value} {gs : List (List Int)} (h : Inner b w us gs) : ∃ dl : List (Lst b w), dl.map (fun x => x.1.1) = us ∧ dl.map (fun x => x.1.2) = gs := by
 have hz : ∀ p ∈ us.zip gs, OwnN b w p.1 p.2 := fun p hp => by
  obtain ⟨i, hi⟩ := List.mem_iff_getElem?.1 hp
  obtain ⟨h1, h2⟩ := List.getElem?_zip_eq_some.1 hi
  exact h.own i _ _ h1 h2
 refine ⟨(us.zip gs).pmap (fun p hp => ⟨p, hp⟩) hz, ?_, ?_⟩
 ·rw [List.map_pmap]
  simp only [List.pmap_eq_map]
  exact List.map_fst_zip (by rw [h.len]; exact Nat.le_refl _)
 ·rw [List.map_pmap]
  simp only [List.pmap_eq_map]
  exact List.map_snd_zip (by rw [h.len]; exact Nat.le_refl _)
theorem inner_pair {b : Nat} {w : World} {dl : List (Lst b w)} : (∀ (i j : Nat) (u u' : Value) (k : Nat), i ≠ j → (dl.map (fun x => x.1.1))[i]? = some u → (dl.map (fun x => x.1.1))[j]? = some u' → u.ownBlock = some k → u'.ownBlock ≠ some k) ↔ dl.Pairwise (fun x y => ∀ k, x.1.1.ownBlock = some k → y.1.1.ownBlock ≠ some k) := by
 rw [List.pairwise_iff_getElem]
 constructor
 ·intro h i j hi hj hij k hk
  exact h i j _ _ k (by omega) (by rw [List.getElem?_map, List.getElem?_eq_getElem hi]; rfl) (by rw [List.getElem?_map, List.getElem?_eq_getElem hj]; rfl) hk
 ·intro h i j u u' k hij hu hu' hk
  rw [List.getElem?_map] at hu hu'
  obtain ⟨x, hx, rfl⟩ := Option.map_eq_some_iff.1 hu
  obtain ⟨y, hy, rfl⟩ := Option.map_eq_some_iff.1 hu'
  obtain ⟨hi, rfl⟩ := List.getElem?_eq_some_iff.1 hx
  obtain ⟨hj, rfl⟩ := List.getElem?_eq_some_iff.1 hy
  rcases Nat.lt_or_ge i j with q | q
  ·exact h i j hi hj q k hk
  ·exact fun e => h j i hj hi (by omega) k e hk
theorem sortg_any {b : Nat} {v : Value} {gs : List (List Int)} (w : World) (h : OwnG b w v gs) (hb : b ≤ w.heap.size) (hlen : gs.length ≤ 100000) :
  Calls Tryz.prog 41 #[v, .func (.func 42) #[] #[]] w fun e w' => e = .returned (.tuple #[]) ∧ OwnG b w' v (sortG gs) ∧ Below b w w' := by
 obtain ⟨us, hh, hI⟩ := h
 by_cases hv : v = .slice none 0 0
 ·subst hv
  have hg : gs = [] := by
   rcases hh.2 with ⟨-, h2⟩ | ⟨k, cap, cur, h1, -⟩
   ·exact List.eq_nil_of_length_eq_zero h2
   ·cases h1
  subst hg
  refine (Tryz.slices_SortFunc_none (α := Nat) none 0 _ w).mono ?_
  rintro e w' ⟨rfl, rfl⟩
  exact ⟨rfl, by unfold sortG; rw [List.mergeSort_nil]; exact ⟨us, hh, hI⟩, Below.refl _ _⟩
 ·obtain ⟨dl, hd1, hd2⟩ := inner_lst hI
  have hh1 : w.ownsRow b 22 1 v gs.length (dl.map Lst.v) := by
   have : dl.map Lst.v = us := hd1
   rw [this]; exact hh
  obtain ⟨g, cap, rfl, hg, hg2, hc, hm, hl, hH⟩ := holds_of_ownsRow hh1 hv
  have hn : dl.toArray.size = gs.length := by simp [hl]
  have hs := Tryz.slices_SortFunc Lst.v lst_one cmpX cmpX_swo 42 #[] g 0 cap dl.toArray w (enters_of Tryz.func42 (by kernel_rfl) rfl) (by rw [hn]; exact lst_cmp hh) hH hg2 (by rw [hn]; omega)
  rw [hn] at hs
  refine hs.mono ?_
  rintro e w' ⟨rfl, d', n, os, hP, hS, hw⟩
  have hsz : d'.size = gs.length := hP.1.trans hn
  have hperm : d'.toList.Perm dl := by
   have := hP.2.2
   rw [Array.extract_eq_self_of_le (by omega), Array.extract_eq_self_of_le (by simp [hl])] at this
   simpa using this
  have o1 := ownsRow_putRow (q := n) (k := gs.length) (ys := d'.toList) hh1 (by simp [hsz]) (Nat.le_refl _)
  rw [List.take_of_length_le (by simp [hsz])] at o1
  have e1 : d'.toList.toArray = d' := by simp
  rw [e1] at o1
  have g1 : Grows (putRow Lst.v (Sort.ahead w n) g 0 d') w' := hw ▸ grows_grow _ _
  have hgs : d'.toList.map (fun x => x.1.2) = sortG gs := by
   refine sortG_eq ?_ ?_
   ·rw [← hd2]; exact hperm.map _
   ·rw [List.pairwise_map, List.pairwise_iff_getElem]
    intro i j hi hj hij
    have := hS i j (Nat.zero_le _) hij (by rw [← hsz]; simpa using hj)
    rw [cmpX_lt] at this
    simp only [Bool.not_eq_false'] at this
    rw [getElem!_pos d' i (by simpa using hi), getElem!_pos d' j (by simpa using hj)] at this
    simpa using this
  have keep : ∀ z : Lst b w, OwnN b w' z.1.1 z.1.2 := fun z => by
   have hz := z.2
   have h1 : OwnN b (putRow Lst.v (Sort.ahead w n) g 0 d') z.1.1 z.1.2 := ownsRow_same hz fun k e => heap_putRow (fun e2 => by subst e2; exact kind_ne hh hz rfl e)
   exact h1.later g1
  have hln : (sortG gs).length = gs.length := (sortG_perm gs).length_eq
  refine ⟨rfl, ⟨d'.toList.map (fun x => x.1.1), ?_, ⟨?_, fun i u xs hu hx => ?_, ?_⟩⟩, ?_⟩
  ·rw [hln]; exact ownsRow_same o1 fun k e => g1.block k (World.ownsRow.lt o1 k e).2
  ·rw [hln]; simp [hsz]
  ·rw [← hgs, List.getElem?_map] at hx
   rw [List.getElem?_map] at hu
   obtain ⟨z, hz, rfl⟩ := Option.map_eq_some_iff.1 hu
   rw [hz] at hx
   cases hx
   exact keep z
  ·rw [inner_pair]
   have h0 : dl.Pairwise (fun x y => ∀ k, x.1.1.ownBlock = some k → y.1.1.ownBlock ≠ some k) := inner_pair.1 (by rw [hd1]; exact hI.ne)
   exact (hperm.pairwise_iff (fun {x y} (q : ∀ k, x.1.1.ownBlock = some k → y.1.1.ownBlock ≠ some k) k hk e => q k e hk)).2 h0
  ·have b1 : Below b w (putRow Lst.v (Sort.ahead w n) g 0 d') := below_putRow (Below.refl b w) hg
   exact b1.trans (g1.mono (Nat.le_trans hb b1.size))

end Go.Proofs.YtoaldbjcpfkcjaaGreat
