/- WireInverse: the walk. -/
import Derived.Test.YtjiljkiedidmeaaDoorTrunc
import Derived.Test.YtjiljkiedidmeaaDoorHeld
import Derived.Test.YtjiljkiedidmeaaDoorCut
import Derived.Test.YtjiljkiedidmeaaDoorFive
namespace Go.Proofs.YtjiljkiedidmeaaDoor
open Go.RowKit Go.Lib

def V5.enc (v : V5) : List UInt8 := encV (v.n % 4) v.N v.s v.l v.t

theorem c45 : Tryd.prog.cellsOf 45 = 5 := by kernel_rfl
theorem info45 : (Tryd.prog.info? 45).map (fun i => (i.zero, i.size, i.bytes)) = some (some (.agg #[.int .u8 0, .int .i64 0, .string ⟨#[]⟩, .slice none 0 0, .slice none 0 0]), 5, 80) := by kernel_rfl
/-- Four strings in a row: the one of a kind. -/
theorem kind_at {w : World} {g z : Nat} {N : Int} {s : List UInt8} {l : List Int} {t : List (List UInt8)} (hz : z < 4)
    (h : w.heap[g]? = some (.cells #[.string ⟨(encI N).toArray⟩, .string ⟨(encT s).toArray⟩, .string ⟨(encL encI l).toArray⟩, .string ⟨(encL encT t).toArray⟩] 9 (0, 0))) :
    w.cell? ⟨g, z, none⟩ = some (.string ⟨(encV z N s l t).toArray⟩) := by
  rw [cell_of_heap h]
  have h3 : z = 0 ∨ z = 1 ∨ z = 2 ∨ z = 3 := by omega
  rcases h3 with rfl | rfl | rfl | rfl <;> rfl

/-- A value as the law keeps it: cut short; its texts in a block of the call's own, apart from the list that keeps it. -/
structure Kept (B : Nat) (w1 w : World) (kv : Value) (v : V5) : Prop where
  num : InI v.N
  text : v.s.length ≤ 100
  rowl : Row w1 v.vl (ints v.l)
  il : ∀ x ∈ v.l, InI x
  ll : v.l.length ≤ 20
  rowt : ∃ n, w.ownsRow B 9 1 v.vt n (strs v.t)
  apart : v.vt.ownBlock = none ∨ v.vt.ownBlock ≠ kv.ownBlock
  it : ∀ x ∈ v.t, InT x
  tb : (v.t.flatMap encT).length ≤ 2420

theorem Kept.on {B : Nat} {w1 w w' : World} {kv kv' : Value} {v : V5} (h : Kept B w1 w kv v) (hg : w.grownBy w' kv.ownBlock) (hk : kv'.ownBlock = kv.ownBlock ∨ ∃ g, kv'.ownBlock = some g ∧ w.heap.size ≤ g) : Kept B w1 w' kv' v := by
  obtain ⟨n, hr⟩ := h.rowt
  refine ⟨h.num, h.text, h.rowl, h.il, h.ll, ⟨n, hr.kept hg h.apart⟩, ?_, h.it, h.tb⟩
  rcases hk with e | ⟨g, e, hge⟩
  · rw [e]; exact h.apart
  · cases hb : v.vt.ownBlock with
    | none => exact .inl rfl
    | some b =>
      right
      have := (hr.lt b hb).2
      rw [e]
      intro e2
      have := Option.some.inj e2
      omega
theorem Kept.enc_le {B : Nat} {w1 w : World} {kv : Value} {v : V5} (h : Kept B w1 w kv v) : v.enc.length ≤ 3000 := encV_le _ h.num h.text h.il h.ll h.tb
theorem flat_len {α β : Type} (f : α → List β) (l : List α) (c : Nat) (h : ∀ x ∈ l, (f x).length ≤ c) : (l.flatMap f).length ≤ l.length * c := by
  induction l with
  | nil => simp
  | cons x l ih =>
    rw [List.flatMap_cons, List.length_append, List.length_cons, Nat.succ_mul]
    have h1 := h x (by simp)
    have h2 := ih fun y hy => h y (by simp [hy])
    omega
theorem alloc_more (w : World) (o : Obj) : w.heap.size < (w.alloc o).heap.size := Nat.lt_of_lt_of_eq (Nat.lt_succ_self _) (Array.size_push _).symm
theorem V5.cells_length (v : V5) : v.cells.length = 5 := rfl
theorem flat_one (K : List V5) (v : V5) : (K ++ [v]).flatMap V5.cells = K.flatMap V5.cells ++ v.cells := by simp
theorem flat_enc (K : List V5) (v : V5) : (K ++ [v]).flatMap V5.enc = K.flatMap V5.enc ++ v.enc := by simp

theorem flat_at (K : List V5) : ∀ (i : Nat) (u : V5), K[i]? = some u → ∀ (j : Nat) (c : Value), u.cells[j]? = some c → (K.flatMap V5.cells)[i * 5 + j]? = some c := by
  induction K with
  | nil => intro i u h; simp at h
  | cons x K ih =>
    intro i u h j c hc
    have hj : j < 5 := (List.getElem?_eq_some_iff.1 hc).1
    rw [List.flatMap_cons]
    cases i with
    | zero =>
      simp at h
      subst h
      rw [List.getElem?_append_left (by rw [V5.cells_length]; omega)]
      rw [Nat.zero_mul, Nat.zero_add]; exact hc
    | succ i =>
      rw [List.getElem?_append_right (by rw [V5.cells_length]; omega), V5.cells_length, show (i + 1) * 5 + j - 5 = i * 5 + j by omega]
      exact ih i u (by simpa using h) j c hc
theorem rowV_of_owns {w : World} {B : Nat} {kv : Value} {k : Nat} {K : List V5} (h : w.ownsRow B 45 5 kv k (K.flatMap V5.cells)) (hK : K.length = k) : RowV w kv K := by
  have hc := fun g hg => h.cells (g := g) hg
  rcases h.2 with ⟨rfl, h0⟩ | ⟨g, cap, cur, rfl, h1, h2, h3, h4, h5, h6⟩
  · have e : K = [] := List.eq_nil_of_length_eq_zero (by omega)
    subst e
    exact ⟨none, 0, rfl, by simp, by simp, .inl rfl⟩
  · unfold maxLen at h4
    refine ⟨_, cap, by rw [hK], by omega, by omega, .inr ⟨g, 0, rfl, ?_⟩⟩
    intro i u hu j c hcc
    have := hc g rfl (i * 5 + j) c (flat_at K i u hu j c hcc)
    rw [Addr.add_lit, Nat.zero_add] at this
    rw [Nat.zero_add]
    exact this
/-- .. and behind the first loop. -/
structure Fine (w : World) (v : V5) : Prop where
  num : InI v.N
  text : v.s.length ≤ 100
  rowl : Row w v.vl (ints v.l)
  rowt : Row w v.vt (strs v.t)
  il : ∀ x ∈ v.l, InI x
  it : ∀ x ∈ v.t, InT x
theorem Kept.fine {B : Nat} {w1 w : World} {kv : Value} {v : V5} (h : Kept B w1 w kv v) (g : Grows w1 w) : Fine w v := by
  obtain ⟨n, hr⟩ := h.rowt
  exact ⟨h.num, h.text, h.rowl.later g, Row.of_owns hr, h.il, h.it⟩
theorem own_mono {w : World} {B B' : Nat} {e : TypeId} {size : Nat} {v : Value} {n : Nat} {xs : List Value} (h : w.ownsRow B e size v n xs) (hb : B' ≤ B) : w.ownsRow B' e size v n xs := by
  refine ⟨h.1, ?_⟩
  rcases h.2 with h2 | ⟨g, cap, cur, h3, h4, h5⟩
  · exact .inl h2
  · exact .inr ⟨g, cap, cur, h3, by omega, h5⟩
theorem drop_enc (K : List V5) (k : Nat) (h : k < K.length) : (K.drop k).flatMap V5.enc = K[k].enc ++ (K.drop (k + 1)).flatMap V5.enc := by
  rw [List.drop_eq_getElem_cons h, List.flatMap_cons]
theorem bytes_add (a b : List UInt8) : (⟨a.toArray⟩ : ByteArray) ++ ⟨b.toArray⟩ = ⟨(a ++ b).toArray⟩ := by
  apply ByteArray.ext
  rw [ByteArray.data_append]
  simp

set_option linter.unusedSimpArgs false in
set_option maxRecDepth 100000 in
set_option maxHeartbeats 4000000 in
theorem inverse_walk (v0 : Value) (vs : List V5) (w : World) (E : Env w) (h0 : RowV w v0 vs) (hok : ∀ v ∈ vs, v.ok w) :
    Calls Tryd.prog 5 #[v0] w fun e w' => e = .returned (.bool true) ∧ Grows w w' := by
  obtain ⟨a, cap, rfl, hc1, hc2, hrow⟩ := h0
  have hle : min vs.length 8 ≤ vs.length := Nat.min_le_left _ _
  have h8 : min vs.length 8 ≤ 8 := Nat.min_le_right _ _
  have hm := min_nat vs.length 8
  rw [show (((8 : Nat) : Int)) = 8 from rfl] at hm
  have hc3 : min vs.length 8 ≤ cap := by omega
  have q45 := c45
  generalize min vs.length 8 = m at *
  go_enter Tryd.func5, Tryd.ntmps5
  go_wp2_with fail
  refine (sane _ E).mono ?_
  rintro e w1 ⟨rfl, g1⟩
  go_wp2_with fail
  go_loopw [4, 5, 19] (fun kv tx i wr => ∃ (k : Nat) (K : List V5), k ≤ m ∧ K.length = k ∧ tx = .string ⟨(K.flatMap V5.enc).toArray⟩ ∧ i = .int .i64 k ∧ wr.ownsRow w1.heap.size 45 5 kv k (K.flatMap V5.cells) ∧ (∀ v ∈ K, Kept w1.heap.size w1 wr kv v) ∧ Grows w1 wr) (fun _ _ i _ => m - (RowKit.intOf i).toNat)
  case atStart => exact ⟨0, [], Nat.zero_le _, rfl, rfl, rfl, World.ownsRow_nil _ _ _ _, by simp, Below.refl _ _⟩
  case round =>
    obtain ⟨k, K, hk, hK, rfl, rfl, o1, hkept, b1⟩ := hrel
    have hs1 := b1.size
    by_cases hlt : k < m
    · rcases hrow with h0 | ⟨b, o, rfl, hcell⟩
      · rw [h0] at hle; simp at hle; omega
      · have hkl : k < vs.length := by omega
        have hce := hcell k vs[k] (List.getElem?_eq_getElem hkl)
        obtain ⟨hN, hs, hl, ht, il, it⟩ := hok vs[k] (List.getElem_mem hkl)
        clear hcell hok
        generalize vs[k] = v at *
        obtain ⟨n, N, s, vl, l, vt, t⟩ := v
        dsimp only at hN hs hl ht il it
        have gw := Grows.then g1 b1
        have at0 : ∀ j c, (V5.cells ⟨n, N, s, vl, l, vt, t⟩)[j]? = some c → wr.cell? ⟨b, o + k * 5 + j, none⟩ = some c := fun j c h => (gw.cell (World.block_lt_of_cell? w _ (hce j c h))).trans (hce j c h)
        have c0 : wr.cell? ⟨b, o + k * 5, none⟩ = some (.int .u8 (n : Int)) := at0 0 _ rfl
        have c1 := at0 1 _ rfl
        have c2 := at0 2 _ rfl
        have c3 := at0 3 _ rfl
        have c4 := at0 4 _ rfl
        clear at0 hce
        have hx := extract_take s 100
        have hm1 := min_nat s.length 100
        have hsz := size_of_list s
        have hle1 : min s.length 100 ≤ s.length := Nat.min_le_left _ _
        have hS1 : (s.take 100).length ≤ 100 := by rw [List.length_take]; omega
        rw [show (((100 : Nat) : Int)) = 100 from rfl] at hm1
        obtain ⟨a1, k1, rfl, hc4, hc5, -⟩ := id hl
        obtain ⟨a2, k2, rfl, hc6, hc7, -⟩ := id ht
        have h3' := hl.first 20
        rw [ints_take] at h3'
        rw [ints_length] at hl h3' hc4
        rw [strs_length] at ht hc6
        have hL20 : (l.take 20).length ≤ 20 := by rw [List.length_take]; omega
        have hl20 : ∀ x ∈ l.take 20, InI x := fun x hx => il x (List.mem_of_mem_take hx)
        have hmin : min l.length 20 = (l.take 20).length := by rw [List.length_take]; omega
        have hle2 : (l.take 20).length ≤ k1 := by rw [List.length_take]; omega
        have hm2 : min (l.length : Int) 20 = (((l.take 20).length : Nat) : Int) := by rw [← hmin]; exact min_nat _ 20
        rw [hmin] at h3'
        have hcb := cutOf_bytes t
        have hci : ∀ x ∈ cutOf t, InT x := fun x hx => by have := cutOf_mem hx; show (x.length : Int) ≤ _; omega
        have HL := Lib.hid hl20
        have HT := Lib.hid it
        have HC := Lib.hid hci
        clear hl20 it il hmin hl hci
        generalize l.take 20 = L at *
        generalize s.take 100 = S at *
        rw [ints_length] at c3
        rw [strs_length] at c4
        have hnz : b < wr.heap.size := World.block_lt_of_cell? wr _ c0
        replace h3' := h3'.later g1
        replace ht := ht.later gw
        have hST := Lib.hid hkept
        clear hkept
        go_wp2_with fail
        have qP := alloc_more wr (.cells #[.int .u8 (n : Int), .int .i64 N, .string ⟨S.toArray⟩, .slice a1 L.length k1, .slice a2 t.length k2] 45)
        have qH := heap_alloc_new wr (.cells #[.int .u8 (n : Int), .int .i64 N, .string ⟨S.toArray⟩, .slice a1 L.length k1, .slice a2 t.length k2] 45)
        have gA : Grows wr (wr.alloc (.cells #[.int .u8 (n : Int), .int .i64 N, .string ⟨S.toArray⟩, .slice a1 L.length k1, .slice a2 t.length k2] 45)) := (Below.refl _ wr).alloc (Nat.le_refl _) _
        refine (cut_own _ t _ (ht.later gA) HT.out).mono ?_
        rintro e w2 ⟨vc, nc, rfl, hoc, gc⟩
        obtain ⟨a3, k3, rfl⟩ : ∃ a3 k3, vc = .slice a3 nc k3 := by rcases hoc.2 with ⟨rfl, rfl⟩ | ⟨g, cap, cur, rfl, -⟩ <;> exact ⟨_, _, rfl⟩
        have hP : w2.heap[wr.heap.size]? = some (.cells #[.int .u8 (n : Int), .int .i64 N, .string ⟨S.toArray⟩, .slice a1 L.length k1, .slice a2 t.length k2] 45 (0, 0)) := (gc.block _ qP).trans qH
        have d0 : w2.cell? ⟨wr.heap.size, 0, none⟩ = some (.int .u8 (n : Int)) := by rw [cell_of_heap hP]; rfl
        have d1 : w2.cell? ⟨wr.heap.size, 1, none⟩ = some (.int .i64 N) := by rw [cell_of_heap hP]; rfl
        have d2 : w2.cell? ⟨wr.heap.size, 2, none⟩ = some (.string ⟨S.toArray⟩) := by rw [cell_of_heap hP]; rfl
        have d3 : w2.cell? ⟨wr.heap.size, 3, none⟩ = some (.slice a1 L.length k1) := by rw [cell_of_heap hP]; rfl
        have d4 : w2.cell? ⟨wr.heap.size, 4, none⟩ = some (.slice a2 t.length k2) := by rw [cell_of_heap hP]; rfl
        have fz : w2.frozen? ⟨wr.heap.size, 4, none⟩ = false := by simp [World.frozen?, hP]
        have hi45 := info_parts info45
        obtain ⟨i0, hi, hz0, hz1, hz2⟩ := hi45
        have o2 : w2.ownsRow w1.heap.size 45 5 u4 k (K.flatMap V5.cells) := o1.kept (grown_of_grows (Grows.then gA gc) none) (by cases u4.ownBlock <;> simp)
        have hneP : u4.ownBlock ≠ some wr.heap.size := fun e => by have := (o1.lt _ e).2; omega
        have o3 : (w2.setCell ⟨wr.heap.size, 4, none⟩ (.slice a3 nc k3)).ownsRow w1.heap.size 45 5 u4 k (K.flatMap V5.cells) := o2.kept (grown_set w2 wr.heap.size 4 (.slice a3 nc k3)) (.inr hneP)
        have hP3 : (w2.setCell ⟨wr.heap.size, 4, none⟩ (.slice a3 nc k3)).heap[wr.heap.size]? = some (.cells #[.int .u8 (n : Int), .int .i64 N, .string ⟨S.toArray⟩, .slice a1 L.length k1, .slice a3 nc k3] 45 (0, 0)) := Joins.block_setCell (i := 4) hP _
        have e0 : (w2.setCell ⟨wr.heap.size, 4, none⟩ (.slice a3 nc k3)).cell? ⟨wr.heap.size, 0, none⟩ = some (.int .u8 (n : Int)) := by rw [cell_of_heap hP3]; rfl
        have e1 : (w2.setCell ⟨wr.heap.size, 4, none⟩ (.slice a3 nc k3)).cell? ⟨wr.heap.size, 1, none⟩ = some (.int .i64 N) := by rw [cell_of_heap hP3]; rfl
        have e2 : (w2.setCell ⟨wr.heap.size, 4, none⟩ (.slice a3 nc k3)).cell? ⟨wr.heap.size, 2, none⟩ = some (.string ⟨S.toArray⟩) := by rw [cell_of_heap hP3]; rfl
        have e3 : (w2.setCell ⟨wr.heap.size, 4, none⟩ (.slice a3 nc k3)).cell? ⟨wr.heap.size, 3, none⟩ = some (.slice a1 L.length k1) := by rw [cell_of_heap hP3]; rfl
        have e4 : (w2.setCell ⟨wr.heap.size, 4, none⟩ (.slice a3 nc k3)).cell? ⟨wr.heap.size, 4, none⟩ = some (.slice a3 nc k3) := by rw [cell_of_heap hP3]; rfl
        have s3 : w1.heap.size ≤ (w2.setCell ⟨wr.heap.size, 4, none⟩ (.slice a3 nc k3)).heap.size := Nat.le_trans b1.size (Nat.le_trans (Grows.then gA gc).size (grown_set w2 wr.heap.size 4 (Value.slice a3 nc k3)).size)
        have hW3s : (w2.setCell ⟨wr.heap.size, 4, none⟩ (.slice a3 nc k3)).heap.size = w2.heap.size := by simp [World.setCell]
        have G3 : Grows wr (w2.setCell ⟨wr.heap.size, 4, none⟩ (.slice a3 nc k3)) := (Grows.then gA gc).setCell (p := ⟨wr.heap.size, 4, none⟩) (Nat.le_refl _) _
        have G4 : Grows wr ((w2.setCell ⟨wr.heap.size, 4, none⟩ (.slice a3 nc k3)).alloc (.cells #[.int .u8 (n : Int), .int .i64 N, .string ⟨S.toArray⟩, .slice a1 L.length k1, .slice a3 nc k3] 45)) := grows_alloc G3 _
        have ho3 : (w2.setCell ⟨wr.heap.size, 4, none⟩ (.slice a3 nc k3)).ownsRow (wr.alloc (.cells #[.int .u8 (n : Int), .int .i64 N, .string ⟨S.toArray⟩, .slice a1 L.length k1, .slice a2 t.length k2] 45)).heap.size 9 1 (Value.slice a3 nc k3) nc (strs (cutOf t)) :=
          hoc.kept (grown_set w2 wr.heap.size 4 _) (by
            cases hb : (Value.slice a3 nc k3).ownBlock with
            | none => exact .inl rfl
            | some x => right; have := (hoc.lt x hb).1; intro e2; have := Option.some.inj e2; omega)
        have hap : (Value.slice a3 nc k3).ownBlock = none ∨ (Value.slice a3 nc k3).ownBlock ≠ u4.ownBlock := by
          cases hb : (Value.slice a3 nc k3).ownBlock with
          | none => exact .inl rfl
          | some x => right; have q1 := (hoc.lt x hb).1; intro e2; have q2 := (o1.lt x e2.symm).2; omega
        go_wp2_with (at_builtin; refine wpList_append_lies _ rfl _ _ 43 rfl w1.heap.size 45 i0 _ 5 80 Tryd.underlying43 hi hz0 hz1 hz2 rfl (by omega) u4 k (K.flatMap V5.cells) rfl (o3.alloc _) _ 1 1 [.int .u8 (n : Int), .int .i64 N, .string ⟨S.toArray⟩, .slice a1 L.length k1, .slice a3 nc k3] rfl rfl ?c1 ?c2 ?c3 ?c4 ?c5 ?c6 _ rfl ?next)
        case c1 =>
          have h := heap_alloc_new (w2.setCell ⟨wr.heap.size, 4, none⟩ (.slice a3 nc k3)) (.cells #[.int .u8 (n : Int), .int .i64 N, .string ⟨S.toArray⟩, .slice a1 L.length k1, .slice a3 nc k3] 45)
          rw [hW3s] at h
          exact World.news_of_block (cs := #[.int .u8 (n : Int), .int .i64 N, .string ⟨S.toArray⟩, .slice a1 L.length k1, .slice a3 nc k3]) (t := 45) (fr := (0, 0)) h
        case c2 => simp [Value.oneCell']
        case c3 => omega
        case c4 => unfold maxLen; omega
        case c5 => omega
        case c6 => exact Nat.le_trans b1.size G4.size
        case next =>
          intro gg cap1 w5 hown1 hgrow hat hlt5
          have f1 : wr.grownBy w5 u4.ownBlock := grown_trans (grown_of_grows G4 _) hgrow
          have b5 : Grows w1 w5 := (Grows.then b1 G4).grown hgrow (Nat.le_trans b1.size G4.size) (fun j hj => (o1.lt j hj).1)
          have hPl3 : wr.heap.size < (w2.setCell ⟨wr.heap.size, 4, none⟩ (.slice a3 nc k3)).heap.size := (Array.getElem?_eq_some_iff.1 hP3).1
          have f2 : w5.heap[wr.heap.size]? = some (.cells #[.int .u8 (n : Int), .int .i64 N, .string ⟨S.toArray⟩, .slice a1 L.length k1, .slice a3 nc k3] 45 (0, 0)) :=
            (hgrow.block _ (Nat.lt_trans hPl3 (alloc_more _ _)) (Ne.symm hneP)).trans (((grows_alloc (Below.refl _ (w2.setCell ⟨wr.heap.size, 4, none⟩ (.slice a3 nc k3))) _).block _ hPl3).trans hP3)
          have f3 : w5.ownsRow w1.heap.size 9 1 (Value.slice a3 nc k3) nc (strs (cutOf t)) := by
            have h := (ho3.alloc (.cells #[.int .u8 (n : Int), .int .i64 N, .string ⟨S.toArray⟩, .slice a1 L.length k1, .slice a3 nc k3] 45)).kept hgrow hap
            exact own_mono h (Nat.le_trans b1.size gA.size)
          have f4 : (Value.slice a3 nc k3).ownBlock = none ∨ (Value.slice a3 nc k3).ownBlock ≠ (Value.slice (some ⟨gg, 0, none⟩) (k + 1) cap1).ownBlock := by
            cases hb : (Value.slice a3 nc k3).ownBlock with
            | none => exact .inl rfl
            | some x =>
              right
              rcases hat with hat | hat
              · rw [show (Value.slice (some ⟨gg, 0, none⟩) (k + 1) cap1).ownBlock = some gg from rfl, ← hat]
                rcases hap with h | h
                · rw [hb] at h; cases h
                · rw [← hb]; exact h
              · have := (hoc.lt x hb).2
                intro e2
                have e3 : x = gg := Option.some.inj e2
                omega
          have f5 : (Value.slice (some ⟨gg, 0, none⟩) (k + 1) cap1).ownBlock = u4.ownBlock ∨ ∃ g, (Value.slice (some ⟨gg, 0, none⟩) (k + 1) cap1).ownBlock = some g ∧ wr.heap.size ≤ g := by
            rcases hat with hat | hat
            · exact .inl hat.symm
            · have := (Grows.then gA gc).size
              exact .inr ⟨gg, rfl, by omega⟩
          have E5 : Env w5 := E.grows (Grows.then g1 b5)
          have h5l := h3'.later b5
          have h5t : Row w5 (Value.slice a3 nc k3) (strs (cutOf t)) := Row.of_owns f3
          have hPl5 : wr.heap.size < w5.heap.size := (Array.getElem?_eq_some_iff.1 f2).1
          have h56 := size_of_list S
          have hSb := encT_le hS1 (by omega)
          have hLb := ints_bytes HL.out 20 hL20
          have hKl := flat_len V5.enc K 3000 (fun v hv => (hST.out v hv).enc_le)
          have hXl := encV_le (n % 4) hN hS1 HL.out hL20 hcb
          clear hW3s qP qH gA gc hP d0 d1 d2 d3 d4 fz hi hz0 hz1 hz2 o2 o3 hP3 e0 e1 e2 e3 e4 s3 G3 G4 ho3 hap hgrow hat hPl3 hoc c0 c1 c2 c3 c4 ht hx hm1 hsz hle1
          have hk0 : ∀ w', Grows w5 w' → w'.cell? ⟨wr.heap.size, 0, none⟩ = some (.int .u8 (n : Int)) ∧ w'.cell? ⟨wr.heap.size, 1, none⟩ = some (.int .i64 N) ∧ w'.cell? ⟨wr.heap.size, 2, none⟩ = some (.string ⟨S.toArray⟩) ∧ w'.cell? ⟨wr.heap.size, 3, none⟩ = some (.slice a1 L.length k1) ∧ w'.cell? ⟨wr.heap.size, 4, none⟩ = some (Value.slice a3 nc k3) ∧ Grows w5 w' := by
            intro w' g
            have h := (g.block _ hPl5).trans f2
            refine ⟨?_, ?_, ?_, ?_, ?_, g⟩ <;> (rw [cell_of_heap h]; rfl)
          replace hk0 := Lib.hid hk0
          clear f2
          go_wp2_with fail
          generalize hacc : K.flatMap V5.enc = acc at *
          replace hacc := Lib.hid hacc
          have q1 : (n : Int).tmod 4 = ((n % 4 : Nat) : Int) := rfl
          have hz4 : n % 4 < 4 := Nat.mod_lt _ (by omega)
          generalize hzz : n % 4 = z at *
          replace hzz := Lib.hid hzz
          have hzi : (z : Int) < 4 := by omega
          have hz0 : (0 : Int) ≤ (z : Int) := by omega
          have hbd := bytes_add acc (encV z N S L (cutOf t))
          have hsa := size_of_list acc
          have hsx := size_of_list (encV z N S L (cutOf t))
          have hall : ∀ v ∈ K ++ [(⟨n, N, S, .slice a1 L.length k1, L, .slice a3 nc k3, cutOf t⟩ : V5)], Kept w1.heap.size w1 w5 (.slice (some ⟨gg, 0, none⟩) (k + 1) cap1) v := by
            intro v hv
            rcases List.mem_append.1 hv with hv | hv
            · exact (hST.out v hv).on f1 f5
            · rw [List.mem_singleton.1 hv]
              exact ⟨hN, hS1, h3', HL.out, hL20, ⟨nc, f3⟩, f4, HC.out, hcb⟩
          replace hall := Lib.hid hall
          have hown2 : w5.ownsRow w1.heap.size 45 5 (.slice (some ⟨gg, 0, none⟩) (k + 1) cap1) (k + 1) ((K ++ [(⟨n, N, S, .slice a1 L.length k1, L, .slice a3 nc k3, cutOf t⟩ : V5)]).flatMap V5.cells) := by rw [flat_one]; exact hown1
          have htx : (K ++ [(⟨n, N, S, .slice a1 L.length k1, L, .slice a3 nc k3, cutOf t⟩ : V5)]).flatMap V5.enc = acc ++ encV z N S L (cutOf t) := by rw [flat_enc, hacc.out]; unfold V5.enc; dsimp only; rw [hzz.out]
          replace htx := Lib.hid htx
          clear hown1 f1 f3 f4 f5 hST
          have hq9 : acc.length + (encV z N S L (cutOf t)).length ≤ 9223372036854775807 := by omega
          generalize wr.heap.size = P at *
          have gd : Grows w5 w5.drew := (Below.refl _ _).drew
          refine wp_region_held_drew (S := (fun w' => w'.cell? ⟨P, 0, none⟩ = some (.int .u8 (n : Int)) ∧ w'.cell? ⟨P, 1, none⟩ = some (.int .i64 N) ∧ w'.cell? ⟨P, 2, none⟩ = some (.string ⟨S.toArray⟩) ∧ w'.cell? ⟨P, 3, none⟩ = some (.slice a1 L.length k1) ∧ w'.cell? ⟨P, 4, none⟩ = some (.slice a3 nc k3) ∧ Grows w5 w')) (by kernel_rfl) (hk0.out _ gd) (fun hHeld => ?_)
          refine wpAnyH_listed #[false, false, false, false, false, false, false, false, false, false, false, false, false, false, false, false, false, false, false, false, false] (by kernel_rfl) ?_
          refine wpAnyT_begin [0, 1, 2, 4, 5, 7] (by kernel_rfl) (by kernel_rfl) ?_
          refine wpAnyT_take (oi := ⟨some 47, Op.move (Operand.tmp 5), 9, _, _, none⟩) (v := .string ⟨acc.toArray⟩) rfl (fun _ _ _ h => h) (by rfl) (by assumption) (fun wS hSw => ?_) ?_
          · (try dsimp only at hSw); go_simp
          dsimp only [Act.put, List.setIfInBounds_toArray, List.set_cons_zero, List.set_cons_succ]
          refine wpAnyT_take (oi := ⟨some 48, Op.fieldAddr 45 (Operand.tmp 7) 1, 0, _, _, none⟩) (v := .pointer (some ⟨P, 1, none⟩)) rfl (fun _ _ _ h => h) (by rfl) (by assumption) (fun wS hSw => ?_) ?_
          · (try dsimp only at hSw); go_simp
          dsimp only [Act.put, List.setIfInBounds_toArray, List.set_cons_zero, List.set_cons_succ]
          refine wpAnyT_take (oi := ⟨some 49, Op.load 3 (Operand.tmp 48), 3, _, _, none⟩) (v := .int .i64 N) rfl (fun _ _ _ h => h) (by rfl) (by assumption) (fun wS hSw => ?_) ?_
          · (try dsimp only at hSw); go_simp
          dsimp only [Act.put, List.setIfInBounds_toArray, List.set_cons_zero, List.set_cons_succ]
          refine wpAnyT_take (oi := ⟨some 51, Op.fieldAddr 45 (Operand.tmp 7) 2, 0, _, _, none⟩) (v := .pointer (some ⟨P, 2, none⟩)) rfl (fun _ _ _ h => h) (by rfl) (by assumption) (fun wS hSw => ?_) ?_
          · (try dsimp only at hSw); go_simp
          dsimp only [Act.put, List.setIfInBounds_toArray, List.set_cons_zero, List.set_cons_succ]
          refine wpAnyT_take (oi := ⟨some 52, Op.load 9 (Operand.tmp 51), 9, _, _, none⟩) (v := .string ⟨S.toArray⟩) rfl (fun _ _ _ h => h) (by rfl) (by assumption) (fun wS hSw => ?_) ?_
          · (try dsimp only at hSw); go_simp
          dsimp only [Act.put, List.setIfInBounds_toArray, List.set_cons_zero, List.set_cons_succ]
          refine wpAnyT_take (oi := ⟨some 54, Op.fieldAddr 45 (Operand.tmp 7) 3, 0, _, _, none⟩) (v := .pointer (some ⟨P, 3, none⟩)) rfl (fun _ _ _ h => h) (by rfl) (by assumption) (fun wS hSw => ?_) ?_
          · (try dsimp only at hSw); go_simp
          dsimp only [Act.put, List.setIfInBounds_toArray, List.set_cons_zero, List.set_cons_succ]
          refine wpAnyT_end ?_
          refine wpAnyH_listed #[true, true, true, false, true, true, false, true, false, false, false, false, false, false, false, false, false, false, false, false, false] (by kernel_rfl) ?_
          refine wpAnyT_begin [8, 10, 11, 14, 15, 16] (by kernel_rfl) (by kernel_rfl) ?_
          refine wpAnyT_take (oi := ⟨some 55, Op.load 22 (Operand.tmp 54), 22, _, _, none⟩) (v := .slice a1 L.length k1) rfl (fun _ _ _ h => h) (by rfl) (by assumption) (fun wS hSw => ?_) ?_
          · (try dsimp only at hSw); go_simp
          dsimp only [Act.put, List.setIfInBounds_toArray, List.set_cons_zero, List.set_cons_succ]
          refine wpAnyT_take (oi := ⟨some 57, Op.fieldAddr 45 (Operand.tmp 7) 4, 0, _, _, none⟩) (v := .pointer (some ⟨P, 4, none⟩)) rfl (fun _ _ _ h => h) (by rfl) (by assumption) (fun wS hSw => ?_) ?_
          · (try dsimp only at hSw); go_simp
          dsimp only [Act.put, List.setIfInBounds_toArray, List.set_cons_zero, List.set_cons_succ]
          refine wpAnyT_take (oi := ⟨some 58, Op.load 23 (Operand.tmp 57), 23, _, _, none⟩) (v := .slice a3 nc k3) rfl (fun _ _ _ h => h) (by rfl) (by assumption) (fun wS hSw => ?_) ?_
          · (try dsimp only at hSw); go_simp
          dsimp only [Act.put, List.setIfInBounds_toArray, List.set_cons_zero, List.set_cons_succ]
          refine wpAnyT_take (oi := ⟨some 61, Op.fieldAddr 45 (Operand.tmp 7) 0, 0, _, _, none⟩) (v := .pointer (some ⟨P, 0, none⟩)) rfl (fun _ _ _ h => h) (by rfl) (by assumption) (fun wS hSw => ?_) ?_
          · (try dsimp only at hSw); go_simp
          dsimp only [Act.put, List.setIfInBounds_toArray, List.set_cons_zero, List.set_cons_succ]
          refine wpAnyT_take (oi := ⟨some 62, Op.load 5 (Operand.tmp 61), 5, _, _, none⟩) (v := .int .u8 (n : Int)) rfl (fun _ _ _ h => h) (by rfl) (by assumption) (fun wS hSw => ?_) ?_
          · (try dsimp only at hSw); go_simp
          dsimp only [Act.put, List.setIfInBounds_toArray, List.set_cons_zero, List.set_cons_succ]
          refine wpAnyT_take (oi := ⟨some 63, Op.binOp BinOp.rem 5 (Operand.tmp 62) (Operand.const (Value.int IntKind.u8 4)) 5, 5, _, _, none⟩) (v := .int .u8 (z : Int)) rfl (fun _ _ _ h => h) (by rfl) (by assumption) (fun wS hSw => ?_) ?_
          · (try dsimp only at hSw); go_simp
          dsimp only [Act.put, List.setIfInBounds_toArray, List.set_cons_zero, List.set_cons_succ]
          refine wpAnyT_end ?_
          refine wpAnyH_listed #[true, true, true, false, true, true, false, true, true, false, true, true, false, false, true, true, true, false, false, false, false] (by kernel_rfl) ?_
          refine wpAnyH_ready (rs := [3]) (by kernel_rfl) (by simp) ?_
          refine AllReadyH.cons (o := ⟨some 50, Op.call { callee := Callee.value (Operand.func 12), args := #[Operand.tmp 49], argTypes := #[3] }, 9, _, _, none⟩) rfl (fun K hK => ?_) AllReadyH.nil
          go_simp
          go_at_call 12
          refine (int_any N _ hN (E5.grows gd)).mono ?_
          rintro e y0 ⟨rfl, hx⟩
          have gy0 := Grows.then gd hx
          clear hx hHeld
          go_wp2_with fail
          refine hK.out _ _ (hk0.out _ gy0) (fun hHeld => ?_)
          clear hK K
          try dsimp only [Act.put, List.setIfInBounds_toArray, List.set_cons_zero, List.set_cons_succ]
          refine wpAnyH_listed #[true, true, true, true, true, true, false, true, true, false, true, true, false, false, true, true, true, false, false, false, false] (by kernel_rfl) ?_
          refine wpAnyH_ready (rs := [6]) (by kernel_rfl) (by simp) ?_
          refine AllReadyH.cons (o := ⟨some 53, Op.call { callee := Callee.value (Operand.func 14), args := #[Operand.tmp 52], argTypes := #[9] }, 9, _, _, none⟩) rfl (fun K hK => ?_) AllReadyH.nil
          go_simp
          go_at_call 14
          refine (text_any _ _ (by rw [h56]; omega) (E5.grows gy0)).mono ?_
          rintro e y1 ⟨rfl, hx⟩
          have gy1 := Grows.then gy0 hx
          clear hx hHeld
          go_wp2_with fail
          refine hK.out _ _ (hk0.out _ gy1) (fun hHeld => ?_)
          clear hK K
          try dsimp only [Act.put, List.setIfInBounds_toArray, List.set_cons_zero, List.set_cons_succ]
          refine wpAnyH_listed #[true, true, true, true, true, true, true, true, true, false, true, true, false, false, true, true, true, false, false, false, false] (by kernel_rfl) ?_
          refine wpAnyH_ready (rs := [9]) (by kernel_rfl) (by simp) ?_
          refine AllReadyH.cons (o := ⟨some 56, Op.call { callee := Callee.value (Operand.func 16), args := #[Operand.tmp 55], argTypes := #[22] }, 9, _, _, none⟩) rfl (fun K hK => ?_) AllReadyH.nil
          go_simp
          go_at_call 16
          refine (wints_any _ L _ (h5l.later gy1) HL.out (by omega) (E5.grows gy1)).mono ?_
          rintro e y2 ⟨rfl, hx⟩
          have gy2 := Grows.then gy1 hx
          clear hx hHeld
          go_wp2_with fail
          refine hK.out _ _ (hk0.out _ gy2) (fun hHeld => ?_)
          clear hK K
          try dsimp only [Act.put, List.setIfInBounds_toArray, List.set_cons_zero, List.set_cons_succ]
          refine wpAnyH_listed #[true, true, true, true, true, true, true, true, true, true, true, true, false, false, true, true, true, false, false, false, false] (by kernel_rfl) ?_
          refine wpAnyH_ready (rs := [12]) (by kernel_rfl) (by simp) ?_
          refine AllReadyH.cons (o := ⟨some 59, Op.call { callee := Callee.value (Operand.func 18), args := #[Operand.tmp 58], argTypes := #[23] }, 9, _, _, none⟩) rfl (fun K hK => ?_) AllReadyH.nil
          go_simp
          go_at_call 18
          refine (wtexts_any _ (cutOf t) _ (h5t.later gy2) (by omega) (E5.grows gy2)).mono ?_
          rintro e y3 ⟨rfl, hx⟩
          have gy3 := Grows.then gy2 hx
          clear hx hHeld
          go_wp2_with fail
          refine hK.out _ _ (hk0.out _ gy3) (fun hHeld => ?_)
          clear hK K
          try dsimp only [Act.put, List.setIfInBounds_toArray, List.set_cons_zero, List.set_cons_succ]
          refine wpAnyH_listed #[true, true, true, true, true, true, true, true, true, true, true, true, true, false, true, true, true, false, false, false, false] (by kernel_rfl) ?_
          refine wpAnyH_ready (rs := [13]) (by kernel_rfl) (by simp) ?_
          refine AllReadyH.cons (o := ⟨some 60, Op.buildSlice 23 4 #[(0, Operand.tmp 50), (1, Operand.tmp 53), (2, Operand.tmp 56), (3, Operand.tmp 59)], 23, _, _, none⟩) rfl (fun K hK => ?_) AllReadyH.nil
          go_simp
          have hb : Grows y3 (y3.alloc (.cells #[.string ⟨(encI N).toArray⟩, .string ⟨(encT S).toArray⟩, .string ⟨(encL encI L).toArray⟩, .string ⟨(encL encT (cutOf t)).toArray⟩] 9)) := (Below.refl _ _).alloc (Nat.le_refl _) _
          have g9 := Grows.then gy3 hb
          have hk1 : ∀ w', Grows (y3.alloc (.cells #[.string ⟨(encI N).toArray⟩, .string ⟨(encT S).toArray⟩, .string ⟨(encL encI L).toArray⟩, .string ⟨(encL encT (cutOf t)).toArray⟩] 9)) w' → w'.cell? ⟨y3.heap.size, z, none⟩ = some (.string ⟨(encV z N S L (cutOf t)).toArray⟩) ∧ w'.cell? ⟨P, 0, none⟩ = some (.int .u8 (n : Int)) ∧ w'.cell? ⟨P, 1, none⟩ = some (.int .i64 N) ∧ w'.cell? ⟨P, 2, none⟩ = some (.string ⟨S.toArray⟩) ∧ w'.cell? ⟨P, 3, none⟩ = some (.slice a1 L.length k1) ∧ w'.cell? ⟨P, 4, none⟩ = some (.slice a3 nc k3) ∧ Grows w5 w' := fun w' q => ⟨(q.cell (alloc_more _ _)).trans (kind_at hz4 (heap_alloc_new _ _)), hk0.out _ (Grows.then g9 q)⟩
          replace hk1 := Lib.hid hk1
          have m1 : Grows (y3.alloc (.cells #[.string ⟨(encI N).toArray⟩, .string ⟨(encT S).toArray⟩, .string ⟨(encL encI L).toArray⟩, .string ⟨(encL encT (cutOf t)).toArray⟩] 9)) (y3.alloc (.cells #[.string ⟨(encI N).toArray⟩, .string ⟨(encT S).toArray⟩, .string ⟨(encL encI L).toArray⟩, .string ⟨(encL encT (cutOf t)).toArray⟩] 9)) := Below.refl _ _
          clear hHeld
          refine hK.out _ _ (hk0.out _ g9) (fun _ => ?_)
          clear hK K
          try dsimp only [Act.put, List.setIfInBounds_toArray, List.set_cons_zero, List.set_cons_succ]
          refine wpAnyH_listed #[true, true, true, true, true, true, true, true, true, true, true, true, true, true, true, true, true, false, false, false, false] (by kernel_rfl) ?_
          refine wpAnyH_more (S := fun w' => w'.cell? ⟨P, 0, none⟩ = some (.int .u8 (n : Int)) ∧ w'.cell? ⟨P, 1, none⟩ = some (.int .i64 N) ∧ w'.cell? ⟨P, 2, none⟩ = some (.string ⟨S.toArray⟩) ∧ w'.cell? ⟨P, 3, none⟩ = some (.slice a1 L.length k1) ∧ w'.cell? ⟨P, 4, none⟩ = some (.slice a3 nc k3) ∧ Grows w5 w') (T := fun w' => w'.cell? ⟨y3.heap.size, z, none⟩ = some (.string ⟨(encV z N S L (cutOf t)).toArray⟩) ∧ w'.cell? ⟨P, 0, none⟩ = some (.int .u8 (n : Int)) ∧ w'.cell? ⟨P, 1, none⟩ = some (.int .i64 N) ∧ w'.cell? ⟨P, 2, none⟩ = some (.string ⟨S.toArray⟩) ∧ w'.cell? ⟨P, 3, none⟩ = some (.slice a1 L.length k1) ∧ w'.cell? ⟨P, 4, none⟩ = some (.slice a3 nc k3) ∧ Grows w5 w') (fun _ q => q.2) _ _ _ _ ?_
          have hHeld := hk1.out _ m1
          clear hb
          generalize (y3.alloc (.cells #[.string ⟨(encI N).toArray⟩, .string ⟨(encT S).toArray⟩, .string ⟨(encL encI L).toArray⟩, .string ⟨(encL encT (cutOf t)).toArray⟩] 9)) = y4 at *
          refine wpAnyT_begin [17, 18, 19, 20] (by kernel_rfl) (by kernel_rfl) ?_
          refine wpAnyT_take (oi := ⟨some 64, Op.indexAddr 23 (Operand.tmp 60) (Operand.tmp 63), 0, _, _, none⟩) (v := .pointer (some ⟨y3.heap.size, z, none⟩)) rfl (fun _ _ _ h => h) (by rfl) (by assumption) (fun wS hSw => ?_) ?_
          · (try dsimp only at hSw); go_simp
          dsimp only [Act.put, List.setIfInBounds_toArray, List.set_cons_zero, List.set_cons_succ]
          refine wpAnyT_take (oi := ⟨some 65, Op.load 9 (Operand.tmp 64), 9, _, _, none⟩) (v := .string ⟨(encV z N S L (cutOf t)).toArray⟩) rfl (fun _ _ _ h => h) (by rfl) (by assumption) (fun wS hSw => ?_) ?_
          · (try dsimp only at hSw); go_simp
          dsimp only [Act.put, List.setIfInBounds_toArray, List.set_cons_zero, List.set_cons_succ]
          refine wpAnyT_take (oi := ⟨some 66, Op.binOp BinOp.add 9 (Operand.tmp 47) (Operand.tmp 65) 9, 9, _, _, none⟩) (v := .string ⟨(acc ++ encV z N S L (cutOf t)).toArray⟩) rfl (fun _ _ _ h => h) (by rfl) (by assumption) (fun wS hSw => ?_) ?_
          · (try dsimp only at hSw); go_simp
          dsimp only [Act.put, List.setIfInBounds_toArray, List.set_cons_zero, List.set_cons_succ]
          refine wpAnyT_take (oi := ⟨some 5, Op.assign (Operand.tmp 66), 9, _, _, none⟩) (v := .string ⟨(acc ++ encV z N S L (cutOf t)).toArray⟩) rfl (fun _ _ _ h => h) (by rfl) (by assumption) (fun wS hSw => ?_) ?_
          · (try dsimp only at hSw); go_simp
          dsimp only [Act.put, List.setIfInBounds_toArray, List.set_cons_zero, List.set_cons_succ]
          refine wpAnyT_end ?_
          refine wpAnyH_listed #[true, true, true, true, true, true, true, true, true, true, true, true, true, true, true, true, true, true, true, true, true] (by kernel_rfl) ?_
          refine wpAnyH_done (by kernel_rfl) ?_ _
          go_wp2_with fail
          go_roundw
          case rel => exact ⟨k + 1, K ++ [(⟨n, N, S, .slice a1 L.length k1, L, .slice a3 nc k3, cutOf t⟩ : V5)], by omega, by simp [hK], by rw [htx.out], by go_num, hown2.kept (grown_of_grows g9 none) (.inr (by simp [Value.ownBlock])), fun v hv => (hall.out v hv).on (grown_of_grows g9 _) (.inl rfl), Grows.then b5 g9⟩
          case measure => simp [RowKit.intOf]; omega
    · have hkm : k = m := by omega
      subst hkm
      have hfine : ∀ v ∈ K, Fine wr v := fun v hv => (hkept v hv).fine b1
      have hRV := rowV_of_owns o1 hK
      have hle5 : ∀ v ∈ K, v.enc.length ≤ 3000 := fun v hv => (hkept v hv).enc_le
      have hlen := flat_len V5.enc K 3000 hle5
      clear hkept o1 hrow hok
      obtain ⟨ka, kc, rfl, hkc1, hkc2, hkrow⟩ := hRV
      have gw := Grows.then g1 b1
      have Ew := E.grows gw
      replace hfine := Lib.hid hfine
      replace hle5 := Lib.hid hle5
      clear g1 b1 E hs1 hc1 hc2 hc3 hle
      obtain ⟨w0, hw0⟩ : ∃ w0, w0 = wr := ⟨_, rfl⟩
      subst hw0
      have hsa := size_of_list (K.flatMap V5.enc)
      go_wp2_with fail
      refine (new_any _ _).mono ?_
      rintro e w3 ⟨rfl, h3, g3⟩
      go_wp2_with fail
      refine (wleft_any _ _ _ _ h3).mono ?_
      rintro e w4 ⟨rfl, rfl⟩
      go_wp2_with fail
      go_loopw [81] (fun i wx => ∃ k2 : Nat, k2 ≤ K.length ∧ i = .int .i64 k2 ∧ RdAt wx w0.heap.size ((K.drop k2).flatMap V5.enc) false ∧ Grows w0 wx) (fun i _ => K.length - (RowKit.intOf i).toNat)
      case atStart => exact ⟨0, Nat.zero_le _, rfl, by simpa using h3, g3⟩
      case round =>
        obtain ⟨j, hj, rfl, hrd, bx⟩ := hrel
        have hR4 : 4 ≤ w0.heap.size := Ew.size
        by_cases hlt2 : j < K.length
        · rcases hkrow with h0 | ⟨b, o, rfl, hcell⟩
          · rw [h0] at hlt2; simp at hlt2
          · have hce := hcell j K[j] (List.getElem?_eq_getElem hlt2)
            obtain ⟨hN, hs, hl, ht, il, it⟩ := hfine.out K[j] (List.getElem_mem hlt2)
            have hsh := flat_len V5.enc (K.drop j) 3000 (fun v hv => hle5.out v (List.mem_of_mem_drop hv))
            rw [List.length_drop] at hsh
            rw [drop_enc K j hlt2] at hrd hsh
            generalize hrest : (K.drop (j + 1)).flatMap V5.enc = rest at *
            replace hrest := Lib.hid hrest
            clear hcell
            generalize K[j] = v at *
            obtain ⟨n, N, s, vl, l, vt, t⟩ := v
            unfold V5.enc at hrd hsh
            dsimp only at hN hs hl ht il it hrd hsh
            have at0 : ∀ i c, (V5.cells ⟨n, N, s, vl, l, vt, t⟩)[i]? = some c → wr.cell? ⟨b, o + j * 5 + i, none⟩ = some c := fun i c h => (bx.cell (World.block_lt_of_cell? w0 _ (hce i c h))).trans (hce i c h)
            have c0 : wr.cell? ⟨b, o + j * 5, none⟩ = some (.int .u8 (n : Int)) := at0 0 _ rfl
            have c1 := at0 1 _ rfl
            have c2 := at0 2 _ rfl
            have c3 := at0 3 _ rfl
            have c4 := at0 4 _ rfl
            clear at0 hce
            obtain ⟨a1, k1, rfl, -, -, -⟩ := id hl
            obtain ⟨a2, k2, rfl, -, -, -⟩ := id ht
            have hl0 := hl
            have ht0 := ht
            replace hl := hl.later bx
            replace ht := ht.later bx
            replace il := Lib.hid il
            replace it := Lib.hid it
            have Ex := Ew.grows bx
            have hsz := size_of_list s
            have hS : RowKit.Hid (Short (encV (n % 4) N s l t ++ rest)) := Lib.hid (show (encV (n % 4) N s l t ++ rest).length < 4294967281 by rw [List.length_append] at *; omega)
            rw [ints_length] at c3 hl hl0
            rw [strs_length] at c4 ht ht0
            clear hsh
            have hk4 : n % 4 = 0 ∨ n % 4 = 1 ∨ n % 4 = 2 ∨ n % 4 = 3 := by omega
            have hnR : w0.heap.size ≠ wr.heap.size := by
              have h := hrd.lt
              intro e2
              rw [← e2] at h
              exact Nat.lt_irrefl _ h
            rcases hk4 with hz | hz | hz | hz
            · have q1 : (n : Int).tmod 4 = 0 := by show ((n % 4 : Nat) : Int) = 0; omega
              have hen : encV (n % 4) N s l t = encI N := by rw [hz]; rfl
              rw [hen] at hrd hS
              clear hz hen
              go_wp2_with fail
              have gB : Grows wr (wr.alloc (.cells #[.int .u8 (n : Int), .int .i64 N, .string ⟨s.toArray⟩, .slice a1 l.length k1, .slice a2 t.length k2] 45)) := grows_alloc (Below.refl _ wr) _
              have hC : (wr.alloc (.cells #[.int .u8 (n : Int), .int .i64 N, .string ⟨s.toArray⟩, .slice a1 l.length k1, .slice a2 t.length k2] 45)).cell? ⟨wr.heap.size, 1, none⟩ = some (.int .i64 N) := by rw [cell_of_heap (heap_alloc_new wr (.cells #[.int .u8 (n : Int), .int .i64 N, .string ⟨s.toArray⟩, .slice a1 l.length k1, .slice a2 t.length k2] 45))]; rfl
              have hlt4 := alloc_more wr (.cells #[.int .u8 (n : Int), .int .i64 N, .string ⟨s.toArray⟩, .slice a1 l.length k1, .slice a2 t.length k2] 45)
              have hrd2 := hrd.later gB
              have E2 := Ex.grows gB
              have g2 := Grows.then bx gB
              clear hrd Ex c0 c1 c2 c3 c4 gB
              generalize (wr.alloc (.cells #[.int .u8 (n : Int), .int .i64 N, .string ⟨s.toArray⟩, .slice a1 l.length k1, .slice a2 t.length k2] 45)) = wy at *
              refine wp_region_held_drew (S := (fun w' => w'.cell? ⟨wr.heap.size, 1, none⟩ = some (.int .i64 N))) (by kernel_rfl) hC (fun hHeld => ?_)
              refine wpAnyH_listed #[false, false, false, false, false, false] (by kernel_rfl) ?_
              refine wpAnyT_begin [0, 2, 3] (by kernel_rfl) (by kernel_rfl) ?_
              refine wpAnyT_take (oi := ⟨some 90, Op.move (Operand.tmp 8), 32, _, _, none⟩) (v := .pointer (some ⟨w0.heap.size, 0, none⟩)) rfl (fun _ _ _ h => h) (by rfl) (by assumption) (fun wS hSw => ?_) ?_
              · (try dsimp only at hSw); go_simp
              dsimp only [Act.put, List.setIfInBounds_toArray, List.set_cons_zero, List.set_cons_succ]
              refine wpAnyT_take (oi := ⟨some 92, Op.fieldAddr 45 (Operand.tmp 10) 1, 0, _, _, none⟩) (v := .pointer (some ⟨wr.heap.size, 1, none⟩)) rfl (fun _ _ _ h => h) (by rfl) (by assumption) (fun wS hSw => ?_) ?_
              · (try dsimp only at hSw); go_simp
              dsimp only [Act.put, List.setIfInBounds_toArray, List.set_cons_zero, List.set_cons_succ]
              refine wpAnyT_take (oi := ⟨some 93, Op.load 3 (Operand.tmp 92), 3, _, _, none⟩) (v := .int .i64 N) rfl (fun _ _ _ h => h) (by rfl) (by assumption) (fun wS hSw => ?_) ?_
              · (try dsimp only at hSw); go_simp
              dsimp only [Act.put, List.setIfInBounds_toArray, List.set_cons_zero, List.set_cons_succ]
              refine wpAnyT_end ?_
              refine wpAnyH_listed #[true, false, true, true, false, false] (by kernel_rfl) ?_
              refine wpAnyH_ready (rs := [1]) (by kernel_rfl) (by simp) ?_
              refine AllReadyH.cons (o := ⟨some 91, Op.call { callee := Callee.value (Operand.func 22), args := #[Operand.tmp 90], argTypes := #[32] }, 3, _, _, none⟩) rfl (fun K hK => ?_) AllReadyH.nil
              go_simp
              go_at_call 22
              refine (rdint_yes _ (encI N ++ rest) rest false N _ E2.drew hS.out hrd2 (fitsI.of N rest hN)).mono ?_
              rintro e y1 ⟨rfl, hr1, gr1⟩
              have g3b : Grows w0 y1 := Below.trans (b := wy.drew) g2.drew (below_of_grown gr1 (Nat.le_refl _) g2.size)
              have hC1 : y1.cell? ⟨wr.heap.size, 1, none⟩ = some (.int .i64 N) := (gr1.cell_far ⟨wr.heap.size, 1, none⟩ hlt4 (by simpa using Ne.symm hnR)).trans hC
              clear hHeld
              go_wp2_with fail
              refine hK.out _ _ hC1 (fun hHeld => ?_)
              clear hK K
              try dsimp only [Act.put, List.setIfInBounds_toArray, List.set_cons_zero, List.set_cons_succ]
              refine wpAnyH_listed #[true, true, true, true, false, false] (by kernel_rfl) ?_
              refine wpAnyT_begin [4, 5] (by kernel_rfl) (by kernel_rfl) ?_
              refine wpAnyT_take (oi := ⟨some 94, Op.binOp BinOp.eql 3 (Operand.tmp 91) (Operand.tmp 93) 3, 4, _, _, none⟩) (v := .bool true) rfl (fun _ _ _ h => h) (by rfl) (by assumption) (fun wS hSw => ?_) ?_
              · (try dsimp only at hSw); go_simp
              dsimp only [Act.put, List.setIfInBounds_toArray, List.set_cons_zero, List.set_cons_succ]
              refine wpAnyT_take (oi := ⟨some 11, Op.assign (Operand.tmp 94), 4, _, _, none⟩) (v := .bool true) rfl (fun _ _ _ h => h) (by rfl) (by assumption) (fun wS hSw => ?_) ?_
              · (try dsimp only at hSw); go_simp
              dsimp only [Act.put, List.setIfInBounds_toArray, List.set_cons_zero, List.set_cons_succ]
              refine wpAnyT_end ?_
              refine wpAnyH_listed #[true, true, true, true, true, true] (by kernel_rfl) ?_
              refine wpAnyH_done (by kernel_rfl) ?_ _
              clear hHeld hC hC1
              go_wp2_with fail
              refine (bad_any _ _ _ _ hr1).mono ?_
              rintro e y5 ⟨rfl, rfl⟩
              go_wp2_with fail
              go_roundw
              case rel => exact ⟨j + 1, by omega, by go_num, by rw [hrest.out]; exact hr1, g3b⟩
              case measure => simp [RowKit.intOf]; omega
            · have q1 : (n : Int).tmod 4 = 1 := by show ((n % 4 : Nat) : Int) = 1; omega
              have hen : encV (n % 4) N s l t = encT s := by rw [hz]; rfl
              rw [hen] at hrd hS
              clear hz hen
              go_wp2_with fail
              have gB : Grows wr (wr.alloc (.cells #[.int .u8 (n : Int), .int .i64 N, .string ⟨s.toArray⟩, .slice a1 l.length k1, .slice a2 t.length k2] 45)) := grows_alloc (Below.refl _ wr) _
              have hC : (wr.alloc (.cells #[.int .u8 (n : Int), .int .i64 N, .string ⟨s.toArray⟩, .slice a1 l.length k1, .slice a2 t.length k2] 45)).cell? ⟨wr.heap.size, 2, none⟩ = some (.string ⟨s.toArray⟩) := by rw [cell_of_heap (heap_alloc_new wr (.cells #[.int .u8 (n : Int), .int .i64 N, .string ⟨s.toArray⟩, .slice a1 l.length k1, .slice a2 t.length k2] 45))]; rfl
              have hlt4 := alloc_more wr (.cells #[.int .u8 (n : Int), .int .i64 N, .string ⟨s.toArray⟩, .slice a1 l.length k1, .slice a2 t.length k2] 45)
              have hrd2 := hrd.later gB
              have E2 := Ex.grows gB
              have g2 := Grows.then bx gB
              clear hrd Ex c0 c1 c2 c3 c4 gB
              generalize (wr.alloc (.cells #[.int .u8 (n : Int), .int .i64 N, .string ⟨s.toArray⟩, .slice a1 l.length k1, .slice a2 t.length k2] 45)) = wy at *
              refine wp_region_held_drew (S := (fun w' => w'.cell? ⟨wr.heap.size, 2, none⟩ = some (.string ⟨s.toArray⟩))) (by kernel_rfl) hC (fun hHeld => ?_)
              refine wpAnyH_listed #[false, false, false, false, false, false] (by kernel_rfl) ?_
              refine wpAnyT_begin [0, 2, 3] (by kernel_rfl) (by kernel_rfl) ?_
              refine wpAnyT_take (oi := ⟨some 97, Op.move (Operand.tmp 8), 32, _, _, none⟩) (v := .pointer (some ⟨w0.heap.size, 0, none⟩)) rfl (fun _ _ _ h => h) (by rfl) (by assumption) (fun wS hSw => ?_) ?_
              · (try dsimp only at hSw); go_simp
              dsimp only [Act.put, List.setIfInBounds_toArray, List.set_cons_zero, List.set_cons_succ]
              refine wpAnyT_take (oi := ⟨some 99, Op.fieldAddr 45 (Operand.tmp 10) 2, 0, _, _, none⟩) (v := .pointer (some ⟨wr.heap.size, 2, none⟩)) rfl (fun _ _ _ h => h) (by rfl) (by assumption) (fun wS hSw => ?_) ?_
              · (try dsimp only at hSw); go_simp
              dsimp only [Act.put, List.setIfInBounds_toArray, List.set_cons_zero, List.set_cons_succ]
              refine wpAnyT_take (oi := ⟨some 100, Op.load 9 (Operand.tmp 99), 9, _, _, none⟩) (v := .string ⟨s.toArray⟩) rfl (fun _ _ _ h => h) (by rfl) (by assumption) (fun wS hSw => ?_) ?_
              · (try dsimp only at hSw); go_simp
              dsimp only [Act.put, List.setIfInBounds_toArray, List.set_cons_zero, List.set_cons_succ]
              refine wpAnyT_end ?_
              refine wpAnyH_listed #[true, false, true, true, false, false] (by kernel_rfl) ?_
              refine wpAnyH_ready (rs := [1]) (by kernel_rfl) (by simp) ?_
              refine AllReadyH.cons (o := ⟨some 98, Op.call { callee := Callee.value (Operand.func 24), args := #[Operand.tmp 97], argTypes := #[32] }, 9, _, _, none⟩) rfl (fun K hK => ?_) AllReadyH.nil
              go_simp
              go_at_call 24
              refine (rdtext_yes _ (encT s ++ rest) s rest false _ E2.drew hS.out hrd2 (fitsT.of s rest (show InT s by unfold InT; omega))).mono ?_
              rintro e y1 ⟨rfl, hr1, gr1⟩
              have g3b : Grows w0 y1 := Below.trans (b := wy.drew) g2.drew (below_of_grown gr1 (Nat.le_refl _) g2.size)
              have hC1 : y1.cell? ⟨wr.heap.size, 2, none⟩ = some (.string ⟨s.toArray⟩) := (gr1.cell_far ⟨wr.heap.size, 2, none⟩ hlt4 (by simpa using Ne.symm hnR)).trans hC
              clear hHeld
              go_wp2_with fail
              refine hK.out _ _ hC1 (fun hHeld => ?_)
              clear hK K
              try dsimp only [Act.put, List.setIfInBounds_toArray, List.set_cons_zero, List.set_cons_succ]
              refine wpAnyH_listed #[true, true, true, true, false, false] (by kernel_rfl) ?_
              refine wpAnyT_begin [4, 5] (by kernel_rfl) (by kernel_rfl) ?_
              refine wpAnyT_take (oi := ⟨some 101, Op.binOp BinOp.eql 9 (Operand.tmp 98) (Operand.tmp 100) 9, 4, _, _, none⟩) (v := .bool true) rfl (fun _ _ _ h => h) (by rfl) (by assumption) (fun wS hSw => ?_) ?_
              · (try dsimp only at hSw); go_simp
              dsimp only [Act.put, List.setIfInBounds_toArray, List.set_cons_zero, List.set_cons_succ]
              refine wpAnyT_take (oi := ⟨some 11, Op.assign (Operand.tmp 101), 4, _, _, none⟩) (v := .bool true) rfl (fun _ _ _ h => h) (by rfl) (by assumption) (fun wS hSw => ?_) ?_
              · (try dsimp only at hSw); go_simp
              dsimp only [Act.put, List.setIfInBounds_toArray, List.set_cons_zero, List.set_cons_succ]
              refine wpAnyT_end ?_
              refine wpAnyH_listed #[true, true, true, true, true, true] (by kernel_rfl) ?_
              refine wpAnyH_done (by kernel_rfl) ?_ _
              clear hHeld hC hC1
              go_wp2_with fail
              refine (bad_any _ _ _ _ hr1).mono ?_
              rintro e y5 ⟨rfl, rfl⟩
              go_wp2_with fail
              go_roundw
              case rel => exact ⟨j + 1, by omega, by go_num, by rw [hrest.out]; exact hr1, g3b⟩
              case measure => simp [RowKit.intOf]; omega
            · have q1 : (n : Int).tmod 4 = 2 := by show ((n % 4 : Nat) : Int) = 2; omega
              have hen : encV (n % 4) N s l t = encL encI l := by rw [hz]; rfl
              rw [hen] at hrd hS
              clear hz hen
              go_wp2_with fail
              have gB : Grows wr (wr.alloc (.cells #[.int .u8 (n : Int), .int .i64 N, .string ⟨s.toArray⟩, .slice a1 l.length k1, .slice a2 t.length k2] 45)) := grows_alloc (Below.refl _ wr) _
              have hC : (wr.alloc (.cells #[.int .u8 (n : Int), .int .i64 N, .string ⟨s.toArray⟩, .slice a1 l.length k1, .slice a2 t.length k2] 45)).cell? ⟨wr.heap.size, 3, none⟩ = some (.slice a1 l.length k1) := by rw [cell_of_heap (heap_alloc_new wr (.cells #[.int .u8 (n : Int), .int .i64 N, .string ⟨s.toArray⟩, .slice a1 l.length k1, .slice a2 t.length k2] 45))]; rfl
              have hlt4 := alloc_more wr (.cells #[.int .u8 (n : Int), .int .i64 N, .string ⟨s.toArray⟩, .slice a1 l.length k1, .slice a2 t.length k2] 45)
              have hrd2 := hrd.later gB
              have E2 := Ex.grows gB
              have g2 := Grows.then bx gB
              have hl2 := hl.later gB
              clear hrd Ex c0 c1 c2 c3 c4 gB
              generalize (wr.alloc (.cells #[.int .u8 (n : Int), .int .i64 N, .string ⟨s.toArray⟩, .slice a1 l.length k1, .slice a2 t.length k2] 45)) = wy at *
              refine wp_region_held_drew (S := (fun w' => w'.cell? ⟨wr.heap.size, 3, none⟩ = some (.slice a1 l.length k1))) (by kernel_rfl) hC (fun hHeld => ?_)
              refine wpAnyH_listed #[false, false, false, false, false, false] (by kernel_rfl) ?_
              refine wpAnyT_begin [0, 2, 3] (by kernel_rfl) (by kernel_rfl) ?_
              refine wpAnyT_take (oi := ⟨some 104, Op.move (Operand.tmp 8), 32, _, _, none⟩) (v := .pointer (some ⟨w0.heap.size, 0, none⟩)) rfl (fun _ _ _ h => h) (by rfl) (by assumption) (fun wS hSw => ?_) ?_
              · (try dsimp only at hSw); go_simp
              dsimp only [Act.put, List.setIfInBounds_toArray, List.set_cons_zero, List.set_cons_succ]
              refine wpAnyT_take (oi := ⟨some 106, Op.fieldAddr 45 (Operand.tmp 10) 3, 0, _, _, none⟩) (v := .pointer (some ⟨wr.heap.size, 3, none⟩)) rfl (fun _ _ _ h => h) (by rfl) (by assumption) (fun wS hSw => ?_) ?_
              · (try dsimp only at hSw); go_simp
              dsimp only [Act.put, List.setIfInBounds_toArray, List.set_cons_zero, List.set_cons_succ]
              refine wpAnyT_take (oi := ⟨some 107, Op.load 22 (Operand.tmp 106), 22, _, _, none⟩) (v := .slice a1 l.length k1) rfl (fun _ _ _ h => h) (by rfl) (by assumption) (fun wS hSw => ?_) ?_
              · (try dsimp only at hSw); go_simp
              dsimp only [Act.put, List.setIfInBounds_toArray, List.set_cons_zero, List.set_cons_succ]
              refine wpAnyT_end ?_
              refine wpAnyH_listed #[true, false, true, true, false, false] (by kernel_rfl) ?_
              refine wpAnyH_ready (rs := [1]) (by kernel_rfl) (by simp) ?_
              refine AllReadyH.cons (o := ⟨some 105, Op.call { callee := Callee.value (Operand.func 27), args := #[Operand.tmp 104], argTypes := #[32] }, 22, _, _, none⟩) rfl (fun K hK => ?_) AllReadyH.nil
              go_simp
              go_at_call 27
              refine (rdints_yes _ (encL encI l ++ rest) rest l _ E2.drew hR4 hS.out hrd2 (fitsIs.of l rest il.out)).mono ?_
              rintro e y1 ⟨va, rfl, hva, hr1, gr1⟩
              obtain ⟨aa, ka, rfl⟩ : ∃ aa ka, va = .slice aa l.length ka := by rcases hva.2 with ⟨rfl, h⟩ | ⟨g, cap, cur, rfl, -⟩; (rw [h]; exact ⟨_, _, rfl⟩); exact ⟨_, _, rfl⟩
              have g3b : Grows w0 y1 := Below.trans (b := wy.drew) g2.drew (below_of_grown gr1 (Nat.le_refl _) g2.size)
              have hC1 : y1.cell? ⟨wr.heap.size, 3, none⟩ = some (.slice a1 l.length k1) := (gr1.cell_far ⟨wr.heap.size, 3, none⟩ hlt4 (by simpa using Ne.symm hnR)).trans hC
              clear hHeld
              go_wp2_with fail
              refine hK.out _ _ hC1 (fun hHeld => ?_)
              clear hK K
              try dsimp only [Act.put, List.setIfInBounds_toArray, List.set_cons_zero, List.set_cons_succ]
              refine wpAnyH_listed #[true, true, true, true, false, false] (by kernel_rfl) ?_
              have hra := Row.of_owns hva
              have hrb : Row y1 _ _ := hl0.later g3b
              refine wpAnyH_ready (rs := [4]) (by kernel_rfl) (by simp) ?_
              refine AllReadyH.cons (o := ⟨some 108, Op.call { callee := Callee.value (Operand.func 26), args := #[Operand.tmp 105, Operand.tmp 107], argTypes := #[22, 22] }, 4, _, _, none⟩) rfl (fun K hK => ?_) AllReadyH.nil
              go_simp
              go_at_call 26
              refine (same_ints _ _ l l _ hra hrb true (by simp)).mono ?_
              rintro e y2 ⟨rfl, gs⟩
              have hC2 : y2.cell? ⟨wr.heap.size, 3, none⟩ = some (.slice a1 l.length k1) := (gs.cell (World.block_lt_of_cell? y1 _ hC1)).trans hC1
              have hr2 := hr1.later gs
              have g4 := Grows.then g3b gs
              clear hHeld
              go_wp2_with fail
              refine hK.out _ _ hC2 (fun hHeld => ?_)
              clear hK K
              try dsimp only [Act.put, List.setIfInBounds_toArray, List.set_cons_zero, List.set_cons_succ]
              refine wpAnyH_listed #[true, true, true, true, true, false] (by kernel_rfl) ?_
              refine wpAnyT_begin [5] (by kernel_rfl) (by kernel_rfl) ?_
              refine wpAnyT_take (oi := ⟨some 11, Op.assign (Operand.tmp 108), 4, _, _, none⟩) (v := .bool true) rfl (fun _ _ _ h => h) (by rfl) (by assumption) (fun wS hSw => ?_) ?_
              · (try dsimp only at hSw); go_simp
              dsimp only [Act.put, List.setIfInBounds_toArray, List.set_cons_zero, List.set_cons_succ]
              refine wpAnyT_end ?_
              refine wpAnyH_listed #[true, true, true, true, true, true] (by kernel_rfl) ?_
              refine wpAnyH_done (by kernel_rfl) ?_ _
              clear hHeld hC hC1 hC2
              go_wp2_with fail
              refine (bad_any _ _ _ _ hr2).mono ?_
              rintro e y5 ⟨rfl, rfl⟩
              go_wp2_with fail
              go_roundw
              case rel => exact ⟨j + 1, by omega, by go_num, by rw [hrest.out]; exact hr2, g4⟩
              case measure => simp [RowKit.intOf]; omega
            · have q1 : (n : Int).tmod 4 = 3 := by show ((n % 4 : Nat) : Int) = 3; omega
              have hen : encV (n % 4) N s l t = encL encT t := by rw [hz]; rfl
              rw [hen] at hrd hS
              clear hz hen
              go_wp2_with fail
              have gB : Grows wr (wr.alloc (.cells #[.int .u8 (n : Int), .int .i64 N, .string ⟨s.toArray⟩, .slice a1 l.length k1, .slice a2 t.length k2] 45)) := grows_alloc (Below.refl _ wr) _
              have hC : (wr.alloc (.cells #[.int .u8 (n : Int), .int .i64 N, .string ⟨s.toArray⟩, .slice a1 l.length k1, .slice a2 t.length k2] 45)).cell? ⟨wr.heap.size, 4, none⟩ = some (.slice a2 t.length k2) := by rw [cell_of_heap (heap_alloc_new wr (.cells #[.int .u8 (n : Int), .int .i64 N, .string ⟨s.toArray⟩, .slice a1 l.length k1, .slice a2 t.length k2] 45))]; rfl
              have hlt4 := alloc_more wr (.cells #[.int .u8 (n : Int), .int .i64 N, .string ⟨s.toArray⟩, .slice a1 l.length k1, .slice a2 t.length k2] 45)
              have hrd2 := hrd.later gB
              have E2 := Ex.grows gB
              have g2 := Grows.then bx gB
              have ht2 := ht.later gB
              clear hrd Ex c0 c1 c2 c3 c4 gB
              generalize (wr.alloc (.cells #[.int .u8 (n : Int), .int .i64 N, .string ⟨s.toArray⟩, .slice a1 l.length k1, .slice a2 t.length k2] 45)) = wy at *
              refine wp_region_held_drew (S := (fun w' => w'.cell? ⟨wr.heap.size, 4, none⟩ = some (.slice a2 t.length k2))) (by kernel_rfl) hC (fun hHeld => ?_)
              refine wpAnyH_listed #[false, false, false, false, false, false] (by kernel_rfl) ?_
              refine wpAnyT_begin [0, 2, 3] (by kernel_rfl) (by kernel_rfl) ?_
              refine wpAnyT_take (oi := ⟨some 111, Op.move (Operand.tmp 8), 32, _, _, none⟩) (v := .pointer (some ⟨w0.heap.size, 0, none⟩)) rfl (fun _ _ _ h => h) (by rfl) (by assumption) (fun wS hSw => ?_) ?_
              · (try dsimp only at hSw); go_simp
              dsimp only [Act.put, List.setIfInBounds_toArray, List.set_cons_zero, List.set_cons_succ]
              refine wpAnyT_take (oi := ⟨some 113, Op.fieldAddr 45 (Operand.tmp 10) 4, 0, _, _, none⟩) (v := .pointer (some ⟨wr.heap.size, 4, none⟩)) rfl (fun _ _ _ h => h) (by rfl) (by assumption) (fun wS hSw => ?_) ?_
              · (try dsimp only at hSw); go_simp
              dsimp only [Act.put, List.setIfInBounds_toArray, List.set_cons_zero, List.set_cons_succ]
              refine wpAnyT_take (oi := ⟨some 114, Op.load 23 (Operand.tmp 113), 23, _, _, none⟩) (v := .slice a2 t.length k2) rfl (fun _ _ _ h => h) (by rfl) (by assumption) (fun wS hSw => ?_) ?_
              · (try dsimp only at hSw); go_simp
              dsimp only [Act.put, List.setIfInBounds_toArray, List.set_cons_zero, List.set_cons_succ]
              refine wpAnyT_end ?_
              refine wpAnyH_listed #[true, false, true, true, false, false] (by kernel_rfl) ?_
              refine wpAnyH_ready (rs := [1]) (by kernel_rfl) (by simp) ?_
              refine AllReadyH.cons (o := ⟨some 112, Op.call { callee := Callee.value (Operand.func 30), args := #[Operand.tmp 111], argTypes := #[32] }, 23, _, _, none⟩) rfl (fun K hK => ?_) AllReadyH.nil
              go_simp
              go_at_call 30
              refine (rdstrs_yes _ (encL encT t ++ rest) rest t _ E2.drew hR4 hS.out hrd2 (fitsTs.of t rest it.out)).mono ?_
              rintro e y1 ⟨va, rfl, hva, hr1, gr1⟩
              obtain ⟨aa, ka, rfl⟩ : ∃ aa ka, va = .slice aa t.length ka := by rcases hva.2 with ⟨rfl, h⟩ | ⟨g, cap, cur, rfl, -⟩; (rw [h]; exact ⟨_, _, rfl⟩); exact ⟨_, _, rfl⟩
              have g3b : Grows w0 y1 := Below.trans (b := wy.drew) g2.drew (below_of_grown gr1 (Nat.le_refl _) g2.size)
              have hC1 : y1.cell? ⟨wr.heap.size, 4, none⟩ = some (.slice a2 t.length k2) := (gr1.cell_far ⟨wr.heap.size, 4, none⟩ hlt4 (by simpa using Ne.symm hnR)).trans hC
              clear hHeld
              go_wp2_with fail
              refine hK.out _ _ hC1 (fun hHeld => ?_)
              clear hK K
              try dsimp only [Act.put, List.setIfInBounds_toArray, List.set_cons_zero, List.set_cons_succ]
              refine wpAnyH_listed #[true, true, true, true, false, false] (by kernel_rfl) ?_
              have hra := Row.of_owns hva
              have hrb : Row y1 _ _ := ht0.later g3b
              refine wpAnyH_ready (rs := [4]) (by kernel_rfl) (by simp) ?_
              refine AllReadyH.cons (o := ⟨some 115, Op.call { callee := Callee.value (Operand.func 29), args := #[Operand.tmp 112, Operand.tmp 114], argTypes := #[23, 23] }, 4, _, _, none⟩) rfl (fun K hK => ?_) AllReadyH.nil
              go_simp
              go_at_call 29
              refine (same_strs _ _ t t _ hra hrb true (by simp)).mono ?_
              rintro e y2 ⟨rfl, gs⟩
              have hC2 : y2.cell? ⟨wr.heap.size, 4, none⟩ = some (.slice a2 t.length k2) := (gs.cell (World.block_lt_of_cell? y1 _ hC1)).trans hC1
              have hr2 := hr1.later gs
              have g4 := Grows.then g3b gs
              clear hHeld
              go_wp2_with fail
              refine hK.out _ _ hC2 (fun hHeld => ?_)
              clear hK K
              try dsimp only [Act.put, List.setIfInBounds_toArray, List.set_cons_zero, List.set_cons_succ]
              refine wpAnyH_listed #[true, true, true, true, true, false] (by kernel_rfl) ?_
              refine wpAnyT_begin [5] (by kernel_rfl) (by kernel_rfl) ?_
              refine wpAnyT_take (oi := ⟨some 11, Op.assign (Operand.tmp 115), 4, _, _, none⟩) (v := .bool true) rfl (fun _ _ _ h => h) (by rfl) (by assumption) (fun wS hSw => ?_) ?_
              · (try dsimp only at hSw); go_simp
              dsimp only [Act.put, List.setIfInBounds_toArray, List.set_cons_zero, List.set_cons_succ]
              refine wpAnyT_end ?_
              refine wpAnyH_listed #[true, true, true, true, true, true] (by kernel_rfl) ?_
              refine wpAnyH_done (by kernel_rfl) ?_ _
              clear hHeld hC hC1 hC2
              go_wp2_with fail
              refine (bad_any _ _ _ _ hr2).mono ?_
              rintro e y5 ⟨rfl, rfl⟩
              go_wp2_with fail
              go_roundw
              case rel => exact ⟨j + 1, by omega, by go_num, by rw [hrest.out]; exact hr2, g4⟩
              case measure => simp [RowKit.intOf]; omega
        · obtain rfl : j = K.length := by omega
          rw [List.drop_length] at hrd
          go_wp2_with fail
          refine (wleft_any _ _ _ _ hrd).mono ?_
          rintro e w5 ⟨rfl, rfl⟩
          go_wp2_with fail
          go_ret
          exact ⟨rfl, Grows.then gw bx⟩

end Go.Proofs.YtjiljkiedidmeaaDoor
