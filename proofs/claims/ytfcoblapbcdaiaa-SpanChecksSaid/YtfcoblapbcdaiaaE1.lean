/- span: what the end of an event is; the events, handed out one after the other; how many are done. -/
import Derived.Test.YtfcoblapbcdaiaaR
namespace Go.Proofs.Ytfcoblapbcdaiaa
open Go.RowKit Go.Lib

/-- A scale. -/
def okA (a : Int) : Bool := decide (0 ≤ a) && decide (a ≤ 1024)
theorem okA_iff (a : Int) : okA a = true ↔ 0 ≤ a ∧ a ≤ 1024 := by unfold okA; simp
theorem okA_no (a : Int) : okA a = false ↔ a < 0 ∨ 1024 < a := by unfold okA; simp; omega
/-- The end of an event at this At. -/
def endA (a : Int) : Int := if okA a then a * a else 0
theorem sq_in {a : Int} (h : okA a = true) : 0 ≤ a * a ∧ a * a ≤ 1048576 := by
  obtain ⟨h1, h2⟩ := (okA_iff a).1 h
  have := Int.mul_le_mul h2 h2 h1 (by omega)
  have := Int.mul_nonneg h1 h1
  omega
theorem endA_bd (a : Int) : 0 ≤ endA a ∧ endA a ≤ 1048576 := by
  unfold endA; split
  · next h => exact sq_in h
  · omega
/-- Whether an event at this At may be done. -/
def dnA (s a : Int) : Bool := okA a && decide (a * a ≤ s)
theorem dnA_end (s a : Int) : dnA s a = (okA a && decide (endA a ≤ s)) := by
  unfold dnA endA; cases okA a <;> rfl
def doneN (s : Int) : List Ev → Nat
  | [] => 0
  | e :: es => if dnA s e.at_ then doneN s es + 1 else 0
theorem doneN_le (s : Int) (es : List Ev) : doneN s es ≤ es.length := by
  induction es with
  | nil => exact Nat.le_refl _
  | cons e es ih => unfold doneN; split <;> simp <;> omega
/-- The first k are done. -/
def Dn (s : Int) (es : List Ev) (k : Nat) : Prop := ∀ i e, i < k → es[i]? = some e → dnA s e.at_ = true
theorem Dn.zero (s : Int) (es : List Ev) : Dn s es 0 := fun i e h => by omega
theorem Dn.next {s : Int} {es : List Ev} {k : Nat} (h : Dn s es k) {e : Ev} (he : es[k]? = some e) (hd : dnA s e.at_ = true) : Dn s es (k + 1) := fun i e' hi he' => by
  rcases Nat.lt_or_ge i k with g | g
  · exact h i e' g he'
  · obtain rfl : i = k := by omega
    rw [he] at he'; cases he'; exact hd
theorem doneN_stop : ∀ {s : Int} {es : List Ev} {k : Nat}, Dn s es k → ∀ {e : Ev}, es[k]? = some e → dnA s e.at_ = false → doneN s es = k
  | s, [], k, h, e, he, hd => by simp at he
  | s, x :: es, 0, h, e, he, hd => by
    simp only [List.getElem?_cons_zero, Option.some.injEq] at he
    subst he
    unfold doneN; rw [hd]; rfl
  | s, x :: es, k + 1, h, e, he, hd => by
    have h0 := h 0 x (by omega) rfl
    unfold doneN
    rw [h0, if_pos rfl, doneN_stop (k := k) (fun i e' hi he' => h (i + 1) e' (by omega) he') he hd]
theorem doneN_all : ∀ {s : Int} {es : List Ev}, Dn s es es.length → doneN s es = es.length
  | s, [], h => rfl
  | s, x :: es, h => by
    have h0 := h 0 x (by simp) rfl
    unfold doneN
    rw [h0, if_pos rfl, doneN_all (es := es) (fun i e' hi he' => h (i + 1) e' (by simp; omega) he')]
    rfl
theorem Dn.of_done : ∀ {s : Int} {es : List Ev}, Dn s es (doneN s es)
  | s, [], i, e, hi, he => by simp at he
  | s, x :: es, i, e, hi, he => by
    unfold doneN at hi
    split at hi
    · next hx =>
      rcases i with _ | i
      · cases he; exact hx
      · exact Dn.of_done (es := es) i e (by omega) he
    · omega
theorem done_stops {s : Int} {es : List Ev} {e : Ev} (he : es[doneN s es]? = some e) : dnA s e.at_ = false := by
  induction es with
  | nil => simp at he
  | cons x es ih =>
    unfold doneN at he
    split at he
    · next hx => rw [List.getElem?_cons_succ] at he; exact ih he
    · next hx =>
      cases he
      simpa using hx

theorem ret_end {a b : Int} {p q : Bool} (h : a = b) (g : p = q) : Ending.returned (.tuple #[.int .i64 a, .bool p]) = .returned (.tuple #[.int .i64 b, .bool q]) := by rw [h, g]
set_option maxHeartbeats 400000 in
theorem endof_any (ki a id ot n : Int) (w : World) :
    Calls Try.prog 28 #[.agg #[.int .i64 ki, .int .i64 a, .int .i64 id, .int .i64 ot, .int .i64 n]] w fun e w' => e = .returned (.tuple #[.int .i64 (endA a), .bool (okA a)]) ∧ Below w.heap.size w w' := by
  have C := has1 (w := w) [.int .i64 ki, .int .i64 a, .int .i64 id, .int .i64 ot, .int .i64 n] 30
  change Has w _ (w.alloc (.cells #[.int .i64 ki, .int .i64 a, .int .i64 id, .int .i64 ot, .int .i64 n] 30)) at C
  by_cases h1 : a < 0
  · have e1 := (okA_no a).2 (.inl h1)
    go_enter Try.func28, Try.ntmps28
    go_wp2_with fail
    generalize w.alloc (.cells #[.int .i64 ki, .int .i64 a, .int .i64 id, .int .i64 ot, .int .i64 n] 30) = w0 at *
    have k1 := C.fact (.head _) (i := 1) rfl
    simp only at k1
    go_wp2_with fail
    exact bodyPost_ret (v := .tuple #[.int .i64 0, .bool false]) (by simp [results, Try.results28, go_sem]) rfl ⟨ret_end (by unfold endA; rw [e1]; rfl) (by first | rfl | exact e1.symm), C.low⟩
  · by_cases h2 : 1024 < a
    · have e1 := (okA_no a).2 (.inr h2)
      go_enter Try.func28, Try.ntmps28
      go_wp2_with fail
      generalize w.alloc (.cells #[.int .i64 ki, .int .i64 a, .int .i64 id, .int .i64 ot, .int .i64 n] 30) = w0 at *
      have k1 := C.fact (.head _) (i := 1) rfl
      simp only at k1
      go_wp2_with fail
      exact bodyPost_ret (v := .tuple #[.int .i64 0, .bool false]) (by simp [results, Try.results28, go_sem]) rfl ⟨ret_end (by unfold endA; rw [e1]; rfl) (by first | rfl | exact e1.symm), C.low⟩
    · have e1 := (okA_iff a).2 ⟨by omega, by omega⟩
      obtain ⟨q1, q2⟩ := sq_in e1
      have q3 : wrap64 (a * a) = a * a := IntWalk.wrap64_in _ ⟨by omega, by omega⟩
      go_enter Try.func28, Try.ntmps28
      go_wp2_with fail
      generalize w.alloc (.cells #[.int .i64 ki, .int .i64 a, .int .i64 id, .int .i64 ot, .int .i64 n] 30) = w0 at *
      have k1 := C.fact (.head _) (i := 1) rfl
      simp only at k1
      go_wp2_with fail
      exact bodyPost_ret (v := .tuple #[.int .i64 (a * a), .bool true]) (by simp [results, Try.results28, go_sem]) rfl ⟨ret_end (by unfold endA; rw [e1]; simp) (by first | rfl | exact e1.symm), C.low⟩

/-- A history in memory. -/
theorem ends_any (d : Int) (sl : Value) (w : World) : Calls Try.prog 32 #[.agg #[.int .i64 d, sl]] w fun e w' => e = .returned (.func (.func 39) #[] #[.pointer (some ⟨w.heap.size, 0, none⟩)]) ∧ w.alloc (.cells #[.int .i64 d, sl] 25) = w' := by
  go_enter Try.func32, Try.ntmps32
  go_wp2_with fail
  go_ret
  exact ⟨rfl, rfl⟩
/-- What is handed out. -/
def enenc (es : List Ev) (k : Nat) : Array Value := #[.int .i64 (endA ((es[k]?).getD default).at_), .bool (okA ((es[k]?).getD default).at_)]
set_option maxRecDepth 100000 in
set_option maxHeartbeats 2000000 in
theorem ends_seq (n : Nat) (es : List Ev) (v : Value) (B : Nat) (w0 : World) :
    Seq n 39 #[.pointer (some ⟨B, 0, none⟩)] es.length (enenc es) (fun W => W.cell? ⟨B, 1, none⟩ = some v ∧ Row tE W v es) w0 := by
  intro l J Jx W hW hJ hL hY hJx h0
  obtain ⟨a, cap, rfl, hc1, hc2, -⟩ := (hL _ _ h0).2
  have hB' := (hL _ _ h0).1
  have HL := Lib.hid hL
  have HY := Lib.hid hY
  have HJ := Lib.hid hJ
  have HX := Lib.hid hJx
  clear hL hY hJ hJx
  obtain ⟨K, hK⟩ : ∃ K, es.length = K := ⟨_, rfl⟩
  rw [hK] at hB' hc1 HY ⊢
  have HK := Lib.hid hK
  clear hK
  refine callsIn_of_wp Try.func39 rfl trivial ?_ rfl
  simp only [Try.ntmps39, List.size_toArray, List.length_cons, List.length_nil, Nat.reduceAdd, Nat.reduceSub, Array.replicate_succ, Array.replicate_zero, List.push_toArray, List.append_toArray, List.nil_append, List.cons_append]
  gi_wp2_with fail
  gi_loopw [8] (fun i wr => ∃ k : Nat, k ≤ K ∧ i = .int .i64 k ∧ J k wr) (fun i _ => K - (RowKit.intOf i).toNat)
  case atStart => exact ⟨0, Nat.zero_le _, rfl, h0⟩
  case round =>
    clear h0 hB' hW
    obtain ⟨k, hk, rfl, hJk⟩ := hrel
    by_cases hlt : k < K
    · obtain ⟨hb, hR⟩ := HL.out _ _ hJk
      rw [HK.out] at hb
      obtain ⟨b, o, ha, hq⟩ := (show Row tE wr (.slice a K cap) es by rw [← HK.out]; exact hR).spot tE_ok (by rw [HK.out]; omega)
      subst ha
      obtain ⟨x, hx⟩ : ∃ x, es[k]? = some x := ⟨_, List.getElem?_eq_getElem (by rw [HK.out]; omega)⟩
      obtain ⟨ki, at1, id1, ot1, n1⟩ := x
      have c0 := hq k _ 0 _ hx rfl
      have c1 := hq k _ 1 _ hx rfl
      have c2 := hq k _ 2 _ hx rfl
      have c3 := hq k _ 3 _ hx rfl
      have c4 := hq k _ 4 _ hx rfl
      simp only [show tE.k = 5 from rfl, Nat.add_zero] at c0 c1 c2 c3 c4
      have hen := Lib.hid (show enenc es k = #[.int .i64 (endA at1), .bool (okA at1)] by unfold enenc; rw [hx]; rfl)
      clear hq hx hR
      have C := has1 (w := wr) [.int .i64 ki, .int .i64 at1, .int .i64 id1, .int .i64 ot1, .int .i64 n1] 30
      change Has wr _ (wr.alloc (.cells #[.int .i64 ki, .int .i64 at1, .int .i64 id1, .int .i64 ot1, .int .i64 n1] 30)) at C
      gi_wp2_with fail
      refine ⟨trivial, fun h => by simp [Fence.wide] at h, (callsIn_wide.2 (endof_any ki at1 id1 ot1 n1 _)).mono ?_⟩
      rintro e w2 ⟨rfl, g2⟩
      have g3 := C.low.trans (g2.mono C.low.size)
      have hJ1 := HJ.out k wr w2 hJk g3
      obtain ⟨fn, tmps, assign, body, hy, hR⟩ := HY.out k w2 hlt hJ1
      rw [hen.out] at hy
      have hR2 := Lib.hid (RoundIn.mono hR (R' := fun e A => ∃ r, e = .returned (.bool r) ∧ ((r = true ∧ J (k + 1) A) ∨ (r = false ∧ Jx k A))) (by
        rintro e A (⟨rfl, h⟩ | ⟨rfl, h⟩)
        · exact ⟨true, rfl, .inl ⟨rfl, h⟩⟩
        · exact ⟨false, rfl, .inr ⟨rfl, h⟩⟩))
      clear hR hJ1 C g2 g3 c0 c1 c2 c3 c4 hb
      gi_wp2_with fail
      refine ⟨fun h => by simp [Fence.wide] at h, hR2.out.mono ?_⟩
      rintro e A ⟨r, rfl, hX⟩
      rcases hX with ⟨rfl, hX⟩ | ⟨rfl, hX⟩
      · gi_wp2_with fail
        go_roundw
        case rel => exact ⟨k + 1, by omega, by go_num, hX⟩
        case measure => simp [RowKit.intOf]; omega
      · gi_wp2_with fail
        refine bodyPost_ret (results_none rfl _ _ _) rfl ?_
        exact ⟨⟨_, rfl⟩, .inr ⟨k, by omega, hX⟩⟩
    · obtain rfl : k = K := by omega
      gi_wp2_with fail
      go_end0
      exact ⟨⟨_, rfl⟩, .inl hJk⟩
end Go.Proofs.Ytfcoblapbcdaiaa
