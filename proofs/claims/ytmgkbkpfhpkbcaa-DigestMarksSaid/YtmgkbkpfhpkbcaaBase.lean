/- What every walk of the digest laws stands on: what of a world stays, and slices that read as values. -/
import Derived.Test.YtmgkbkpfhpkbcaaRows
import Derived.Test.YtmgkbkpfhpkbcaaMath
import Derived.WalkKit
import Derived.WalkSpells
import Derived.WalkLawsBesides
import Derived.Handy
import Derived.Lib.Hide
import Derived.Lib.SmallJoins
import Derived.Deep.QuietTactic
import Derived.BigQuiet
import Derived.Deep.DeepCutAuto
import Derived.Deep.CutBlock
import Derived.Deep.RegionHeld3
import Derived.Deep.AppendLies
import Derived.Deep.MidRow
import Derived.Laws.IdiomStrings
import Derived.WalkMore
namespace Go.Proofs.Ytmgkbkpfhpkbcaa
open Go.RowKit Go.Lib

/-- Nothing of what was there has turned. -/
abbrev Grows (w w' : World) : Prop := Below w.heap.size w w'
theorem Grows.rfl' (w : World) : Grows w w := Below.refl _ _
theorem Grows.then {a b c : World} (h : Grows a b) (k : Grows b c) : Grows a c := h.trans (k.mono h.size)

/-- A string's value out of its bytes. -/
def str (l : List UInt8) : Value := .string ⟨l.toArray⟩
def strs (l : List (List UInt8)) : List Value := l.map str
theorem strs_length (l : List (List UInt8)) : (strs l).length = l.length := by simp [strs]
theorem ret_str {a b : ByteArray} (h : a.data.toList = b.data.toList) : Ending.returned (.string a) = .returned (.string b) := by
  have : a = b := by
    cases a; cases b
    simp only at h
    congr 1
    exact Array.ext' h
  rw [this]

/-- A slice that reads as these values. -/
def Row (w : World) (v : Value) (xs : List Value) : Prop :=
  ∃ a cap, v = .slice a xs.length cap ∧ xs.length ≤ cap ∧ (cap : Int) ≤ 9223372036854775807 ∧ (xs = [] ∨ ∃ b o, a = some ⟨b, o, none⟩ ∧ ∀ i u, xs[i]? = some u → w.cell? ⟨b, o + i, none⟩ = some u)
theorem Row.same {w w' : World} {v : Value} {xs : List Value} (h : Row w v xs) (hc : ∀ b o x, w.cell? ⟨b, o, none⟩ = some x → w'.cell? ⟨b, o, none⟩ = some x) : Row w' v xs := by
  obtain ⟨a, cap, h1, h2, h3, h4⟩ := h
  refine ⟨a, cap, h1, h2, h3, ?_⟩
  rcases h4 with h4 | ⟨b, o, h5, h6⟩
  · exact .inl h4
  · exact .inr ⟨b, o, h5, fun i x hu => hc b (o + i) x (h6 i x hu)⟩
theorem Row.later {w w' : World} {v : Value} {xs : List Value} (h : Row w v xs) (hg : Grows w w') : Row w' v xs :=
  h.same fun _ _ _ hu => (hg.cell (World.block_lt_of_cell? w _ hu)).trans hu
theorem Row.nil (w : World) : Row w (.slice none 0 0) [] := ⟨none, 0, rfl, by simp, by simp, .inl rfl⟩

/-- A digest's cells, and its value. -/
def bc (s : List UInt8) : List Value := s.map fun c => .int .u8 (c.toNat : Int)
def agg8 (s : List UInt8) : Value := .agg (bc s).toArray
theorem bc_length (s : List UInt8) : (bc s).length = s.length := by simp [bc]
theorem bc_one (s : List UInt8) : ∀ v ∈ bc s, v.oneCell' = true := by
  intro v hv
  obtain ⟨c, _, rfl⟩ := List.mem_map.1 hv
  rfl
theorem info52 : (Try.prog.info? 52).map (·.size) = some 8 := by kernel_rfl
theorem info52' {s : List UInt8} (h : s.length = 8) : (Try.prog.info? 52).map (·.size) = some (bc s).length := by rw [bc_length, h]; exact info52
theorem info52a {s : List UInt8} (h : s.length = 8) : (Try.prog.info? 52).map (·.size) = some (bc s).toArray.size := by rw [List.size_toArray]; exact info52' h
theorem eight {s : List UInt8} (h : s.length = 8) : ∃ c0 c1 c2 c3 c4 c5 c6 c7, s = [c0, c1, c2, c3, c4, c5, c6, c7] := by
  match s, h with
  | [c0, c1, c2, c3, c4, c5, c6, c7], _ => exact ⟨c0, c1, c2, c3, c4, c5, c6, c7, rfl⟩

theorem arr8 (w : World) (a : Addr) (cap : Nat) : (Instr.arrayAt 52 (.slice (some a) 8 cap)).run Try.prog w = .ok (.pointer (some a)) w := by
  simp [Instr.arrayAt, Sem.run_bind, run_underlying Try.underlying52 w, Result.andThen]

/-- '[]byte(s)' of eight bytes. -/
theorem bytes8 (s : List UInt8) (h : s.length = 8) (w : World) : ∃ w1 cap, (convert 9 32 (.string ⟨s.toArray⟩)).run Try.prog w = .ok (.slice (some ⟨w.heap.size, 0, none⟩) 8 cap) w1 ∧ Grows w w1 ∧ w1.rangeAt w.heap.size 0 (bc s) := by
  have e : ByteArray.size ⟨s.toArray⟩ = 8 := by show s.toArray.size = 8; simp [h]
  have hr := run_bytes_of_string (P := Try.prog) w 9 32 5 ⟨s.toArray⟩ Try.underlying9 Try.underlying32 Try.underlying5
  refine ⟨_, _, by rw [hr, e], ?_, ?_⟩
  · exact ((Below.refl _ w).drew).alloc (Nat.le_refl _) _
  · intro j v hj
    have hl : j < s.length := by have := (List.getElem?_eq_some_iff.1 hj).1; rwa [bc_length] at this
    refine (World.cell?_alloc_mark w.drew (bytesRow ⟨s.toArray⟩ (grownCap w 8 0 5)) 5 ((bytesRow ⟨s.toArray⟩ (grownCap w 8 0 5)).size, (bytesRow ⟨s.toArray⟩ (grownCap w 8 0 5)).size + 1) (0 + j)).trans ?_
    rw [Nat.zero_add, bytesRow_at _ _ _ (by simpa using hl), ← hj]
    unfold bc
    rw [List.getElem?_map, List.getElem?_eq_getElem hl]
    simp

set_option maxHeartbeats 400000 in
theorem word_any (n : Nat) (w : World) (_h : n < 18446744073709551616) :
    Calls Try.prog 42 #[.int .u64 (n : Int)] w fun e w' => e = .returned (str (word n)) ∧ Grows w w' := by
  have cv : ∀ w' : World, (∀ j (hj : j < (word n).length), w'.cell? ((⟨w.heap.size, 0, none⟩ : Addr).add j) = some (.int .u8 ((word n)[j].toNat : Int))) →
      (convert 32 9 (.slice (some ⟨w.heap.size, 0, none⟩) 4 4)).run Try.prog w' = .ok (.string ⟨(word n).toArray⟩) w' := fun w' hc =>
    run_convert_bytes_back (P := Try.prog) w' 32 9 5 ⟨w.heap.size, 0, none⟩ 4 (word n) Try.underlying32 Try.underlying5 Try.underlying9 hc
  have CV := Lib.hid cv
  clear cv
  go_enter Try.func42, Try.ntmps42
  go_wp2
  rw [CV.out]
  · simp only [Result.andThen]
    rw [Oper.upon_value]
    go_wp2
    go_ret
    exact ⟨rfl, (Below.refl _ _).alloc (Nat.le_refl _) _⟩
  · intro j hj
    rw [Addr.add_mid, World.cell?_alloc_new]
    match j, hj with
    | 0, _ => simp [word]
    | 1, _ => simp [word]
    | 2, _ => simp [word]
    | 3, _ => simp [word]

set_option maxHeartbeats 400000 in
theorem bytes4_any (n : Nat) (w : World) (_h : n < 9223372036854775808) :
    Calls Try.prog 33 #[.int .i64 (n : Int)] w fun e w' => e = .returned (str (word n)) ∧ Grows w w' := by
  have cv : ∀ w' : World, (∀ j (hj : j < (word n).length), w'.cell? ((⟨w.heap.size, 0, none⟩ : Addr).add j) = some (.int .u8 ((word n)[j].toNat : Int))) →
      (convert 32 9 (.slice (some ⟨w.heap.size, 0, none⟩) 4 4)).run Try.prog w' = .ok (.string ⟨(word n).toArray⟩) w' := fun w' hc =>
    run_convert_bytes_back (P := Try.prog) w' 32 9 5 ⟨w.heap.size, 0, none⟩ 4 (word n) Try.underlying32 Try.underlying5 Try.underlying9 hc
  have CV := Lib.hid cv
  clear cv
  go_enter Try.func33, Try.ntmps33
  go_wp2
  rw [CV.out]
  · simp only [Result.andThen]
    rw [Oper.upon_value]
    go_wp2
    go_ret
    exact ⟨rfl, (Below.refl _ _).alloc (Nat.le_refl _) _⟩
  · intro j hj
    rw [Addr.add_mid, World.cell?_alloc_new]
    match j, hj with
    | 0, _ => simp [word]
    | 1, _ => simp [word]
    | 2, _ => simp [word]
    | 3, _ => simp [word]

set_option maxHeartbeats 400000 in
theorem length_any (s : List UInt8) (w : World) (h : (s.length : Int) ≤ 9223372036854775807) :
    Calls Try.prog 34 #[str s] w fun e w' => e = .returned (str (word s.length)) ∧ Grows w w' := by
  unfold str
  go_enter Try.func34, Try.ntmps34
  go_wp2_with fail
  refine (word_any s.length _ (by omega)).mono ?_
  rintro e w1 ⟨rfl, g⟩
  unfold str
  go_wp2_with fail
  go_ret
  exact ⟨rfl, g⟩

/-- A block of a digest that has just been laid. -/
abbrev zero8 : Obj := .cells #[.int .u8 0, .int .u8 0, .int .u8 0, .int .u8 0, .int .u8 0, .int .u8 0, .int .u8 0, .int .u8 0] 52
theorem there_zero (w : World) : (w.alloc zero8).there w.heap.size 0 8 := by
  intro j hj
  refine ⟨?_, World.frozen?_alloc_new _ _ _ _⟩
  rw [World.cell?_alloc_new]
  match j, hj with
  | 0, _ => rfl
  | 1, _ => rfl
  | 2, _ => rfl
  | 3, _ => rfl
  | 4, _ => rfl
  | 5, _ => rfl
  | 6, _ => rfl
  | 7, _ => rfl
theorem there_later {w w' : World} {b o n B : Nat} (h : w.there b o n) (hg : Below B w w') (hb : b < B) : w'.there b o n := fun j hj => by
  have h1 := (hg.cell (p := ⟨b, o + j, none⟩) hb)
  have h2 := (hg.frozen (p := ⟨b, o + j, none⟩) hb)
  rw [h1, h2]
  exact h j hj
theorem range_later {w w' : World} {b o B : Nat} {cs : List Value} (h : w.rangeAt b o cs) (hg : Below B w w') (hb : b < B) : w'.rangeAt b o cs := fun j v hv =>
  (hg.cell (p := ⟨b, o + j, none⟩) hb).trans (h j v hv)
theorem there_range {w : World} {b o n : Nat} (h : w.there b o n) : ∀ j, j < n → (w.cell? ⟨b, o + j, none⟩).isSome = true := fun j hj => (h j hj).1

section
variable {ops : Array Oper} {rest : List Oper} {op : Oper} {a : Act} {w : World} {Q : Exit → Act → World → Prop} {b o : Nat} {s : List UInt8}
/-- A digest is read. -/
theorem load8 (hgd : op.guard = none) (x : Operand) (ho : op.op = .load 52 x) (hx : a.eval x = .pointer (some ⟨b, o, none⟩)) (hs : Hid (s.length = 8)) (hc : w.rangeAt b o (bc s))
    (h : wpList Try.prog ops Q rest (a.put op.dst (agg8 s)) w) : wpList Try.prog ops Q (op :: rest) a w :=
  wpList_load_mid hgd 52 x ho b o hx (bc s) _ hc Try.underlying52 rfl (info52' hs.out) h
/-- A digest is written. -/
theorem store8 (hgd : op.guard = none) (x y : Operand) (ho : op.op = .store 52 x y) (hx : a.eval x = .pointer (some ⟨b, o, none⟩)) (hy : a.eval y = agg8 s) (hs : Hid (s.length = 8)) (ht : w.there b o 8)
    (h : wpList Try.prog ops Q rest (a.put op.dst undef) (w.setCells b o (bc s))) : wpList Try.prog ops Q (op :: rest) a w :=
  wpList_store_mid hgd 52 x y ho b o (bc s).toArray hx hy (by rw [List.size_toArray, bc_length, hs.out]; exact ht) (info52a hs.out) (all_oneCell_toArray (bc_one s)) h
theorem range_set (hs : Hid (s.length = 8)) (ht : w.there b o 8) : (w.setCells b o (bc s)).rangeAt b o (bc s) := World.rangeAt_setCells_same w b o (bc s) (by rw [bc_length, hs.out]; exact ht)
theorem results8 {fn : Func} {p : Tmp} {tmps : Array Value} (h : fn.results = #[.cell p 52]) (hp : tmps.getD p undef = .pointer (some ⟨b, o, none⟩)) (hs : Hid (s.length = 8)) (hc : w.rangeAt b o (bc s)) :
    (results fn tmps).run Try.prog w = .ok (agg8 s) w := by
  have hl := run_loadVar_mid w b o 52 (bc s) _ hc Try.underlying52 rfl (info52' hs.out)
  have hp' : tmps[p]?.getD undef = .pointer (some ⟨b, o, none⟩) := by simpa using hp
  simp [results, h, hp', asAddr, hl, agg8]
theorem results8b {fn : Func} {p u : Tmp} {tmps : Array Value} (h : fn.results = #[.cell p 52, .tmp u]) (hp : tmps.getD p undef = .pointer (some ⟨b, o, none⟩)) (hs : Hid (s.length = 8)) (hc : w.rangeAt b o (bc s)) :
    (results fn tmps).run Try.prog w = .ok (.tuple #[agg8 s, tmps.getD u undef]) w := by
  have hl := run_loadVar_mid w b o 52 (bc s) _ hc Try.underlying52 rfl (info52' hs.out)
  have hp' : tmps[p]?.getD undef = .pointer (some ⟨b, o, none⟩) := by simpa using hp
  rw [results_cell_tmp h]
  simp [hp', asAddr, Result.andThen, hl, agg8]
end
/-- Writing into a block of one's own leaves the rest. -/
theorem grows_set {B : Nat} {w w' : World} {b o : Nat} {cs : List Value} (h : Below B w w') (hb : B ≤ b) : Below B w (w'.setCells b o cs) := by
  induction cs generalizing o w' with
  | nil => exact h
  | cons v r ih => rw [World.setCells]; exact ih (h.setCell (p := ⟨b, o, none⟩) hb v)

attribute [local go_sem] arr8
set_option maxHeartbeats 400000 in
theorem parse_yes (s : List UInt8) (w : World) (h : s.length = 8) :
    Calls Try.prog 35 #[str s] w fun e w' => e = .returned (.tuple #[agg8 s, .bool true]) ∧ Grows w w' := by
  have hl : ((s.length : Int) != 8) = false := by simp [h]
  have HB := Lib.hid (bytes8 s h)
  have hs := Lib.hid h
  clear h
  unfold str
  go_enter Try.func35, Try.ntmps35
  go_wp2
  have t0 := there_zero w
  have g0 : Grows w (w.alloc zero8) := (Below.refl _ _).alloc (Nat.le_refl _) _
  obtain ⟨w1, cap, e1, g1, r1⟩ := HB.out (w.alloc zero8)
  rw [e1]
  have t1 := there_later t0 g1 (by simp)
  have b1 := g0.then g1
  rw [World.size_alloc] at r1
  clear e1 t0 g0 g1
  simp only [Result.andThen]
  rw [Oper.upon_value]
  go_wp2_with (first | (refine load8 rfl _ rfl rfl hs r1 ?_) | (refine store8 rfl _ _ rfl rfl rfl hs t1 ?_))
  exact bodyPost_ret (results8b rfl rfl hs (range_set hs t1)) rfl ⟨rfl, grows_set b1 (Nat.le_refl _)⟩

set_option maxHeartbeats 400000 in
theorem parse_no (s : List UInt8) (w : World) (h : s.length ≠ 8) :
    Calls Try.prog 35 #[str s] w fun e w' => e = .returned (.tuple #[agg8 [0, 0, 0, 0, 0, 0, 0, 0], .bool false]) ∧ Grows w w' := by
  have hl : ((s.length : Int) != 8) = true := by simp; omega
  unfold str
  go_enter Try.func35, Try.ntmps35
  go_wp2
  exact bodyPost_ret (v := .tuple #[agg8 [0, 0, 0, 0, 0, 0, 0, 0], .bool false]) (by simp [results, Try.results35, go_sem, agg8, bc]) rfl ⟨rfl, by go_grown⟩

set_option maxHeartbeats 400000 in
theorem text_any (s : List UInt8) (w : World) (h : s.length = 8) :
    Calls Try.prog 32 #[agg8 s] w fun e w' => e = .returned (str s) ∧ Grows w w' := by
  obtain ⟨c0, c1, c2, c3, c4, c5, c6, c7, rfl⟩ := eight h
  have cv : ∀ w' : World, (∀ j (hj : j < [c0, c1, c2, c3, c4, c5, c6, c7].length), w'.cell? ((⟨w.heap.size, 0, none⟩ : Addr).add j) = some (.int .u8 ([c0, c1, c2, c3, c4, c5, c6, c7][j].toNat : Int))) →
      (convert 32 9 (.slice (some ⟨w.heap.size, 0, none⟩) 8 8)).run Try.prog w' = .ok (.string ⟨[c0, c1, c2, c3, c4, c5, c6, c7].toArray⟩) w' := fun w' hc =>
    run_convert_bytes_back (P := Try.prog) w' 32 9 5 ⟨w.heap.size, 0, none⟩ 8 [c0, c1, c2, c3, c4, c5, c6, c7] Try.underlying32 Try.underlying5 Try.underlying9 hc
  have CV := Lib.hid cv
  clear cv
  unfold agg8 bc
  simp only [List.map_cons, List.map_nil]
  go_enter Try.func32, Try.ntmps32
  go_wp2
  rw [CV.out]
  · simp only [Result.andThen]
    rw [Oper.upon_value]
    go_wp2
    go_ret
    exact ⟨rfl, (Below.refl _ _).alloc (Nat.le_refl _) _⟩
  · intro j hj
    rw [Addr.add_mid, World.cell?_alloc_new]
    match j, hj with
    | 0, _ => simp
    | 1, _ => simp
    | 2, _ => simp
    | 3, _ => simp
    | 4, _ => simp
    | 5, _ => simp
    | 6, _ => simp
    | 7, _ => simp

end Go.Proofs.Ytmgkbkpfhpkbcaa
