/- span: where the next event begins; which event is in progress, and how far. -/
import Derived.Test.YtfcoblapbcdaiaaE2
import Derived.Test.YtfcoblapbcdaiaaA2
namespace Go.Proofs.Ytfcoblapbcdaiaa
open Go.RowKit Go.Lib
attribute [local go_sem] Oper.semAt_some
/-- The At of an event. -/
def atE (es : List Ev) (k : Nat) : Int := ((es[k]?).getD default).at_
/-- Where the event n begins, if those before it are done. -/
def begE (es : List Ev) (n : Nat) : Int := if n = 0 then 0 else endA (atE es (n - 1))
theorem begE_bd (es : List Ev) (n : Nat) : 0 ≤ begE es n ∧ begE es n ≤ 1048576 := by
  unfold begE; split
  · omega
  · exact endA_bd _
theorem atE_of {es : List Ev} {k : Nat} {e : Ev} (h : es[k]? = some e) : atE es k = e.at_ := by unfold atE; rw [h]; rfl
/-- The cells of the k-th event. -/
theorem Row.ev {w : World} {a : Option Addr} {n c : Nat} {es : List Ev} (h : Row tE w (.slice a n c) es) {k : Nat} (hk : k < es.length) :
    ∃ b o ki id ot nn, a = some ⟨b, o, none⟩ ∧ es[k]? = some ⟨ki, atE es k, id, ot, nn⟩ ∧ w.cell? ⟨b, o + k * 5, none⟩ = some (.int .i64 ki) ∧ w.cell? ⟨b, o + k * 5 + 1, none⟩ = some (.int .i64 (atE es k)) ∧
      w.cell? ⟨b, o + k * 5 + 2, none⟩ = some (.int .i64 id) ∧ w.cell? ⟨b, o + k * 5 + 3, none⟩ = some (.int .i64 ot) ∧ w.cell? ⟨b, o + k * 5 + 4, none⟩ = some (.int .i64 nn) := by
  obtain ⟨b, o, ha, hq⟩ := h.spot tE_ok (by omega)
  obtain ⟨x, hx⟩ : ∃ x, es[k]? = some x := ⟨_, List.getElem?_eq_getElem hk⟩
  rw [atE_of hx]
  exact ⟨b, o, x.kind, x.id, x.other, x.n, ha, hx, hq k _ 0 _ hx rfl, hq k _ 1 _ hx rfl, hq k _ 2 _ hx rfl, hq k _ 3 _ hx rfl, hq k _ 4 _ hx rfl⟩

set_option maxHeartbeats 400000 in
theorem begin_any (d : Int) (sl : Value) (es : List Ev) (n : Nat) (w : World) (hv : Row tE w sl es) (hn : n ≤ es.length) :
    Calls Try.prog 27 #[.agg #[.int .i64 d, sl], .int .i64 (n : Int)] w fun e w' => e = .returned (.int .i64 (begE es n)) ∧ Below w.heap.size w w' := by
  have C := has1 (w := w) [.int .i64 d, sl] 25
  change Has w _ (w.alloc (.cells #[.int .i64 d, sl] 25)) at C
  rcases Nat.eq_zero_or_pos n with h0 | h0
  · subst h0
    go_enter Try.func27, Try.ntmps27
    go_wp2_with fail
    go_ret
    exact ⟨rfl, C.low⟩
  · obtain ⟨m, rfl⟩ : ∃ m, n = m + 1 := ⟨n - 1, by omega⟩
    have R := hv.later C.low
    obtain ⟨a, L, c, rfl, hL, hc1, hc2, R⟩ := R.form
    obtain ⟨b, o, ki, id, ot, nn, rfl, hx, c0, c1, c2, c3, c4⟩ := R.ev (k := m) (by omega)
    have hb := Lib.hid (show begE es (m + 1) = endA (atE es m) from rfl)
    generalize atE es m = at1 at *
    clear hx R hv
    have g1 : ((m + 1 : Nat) : Int) = (m : Int) + 1 := by omega
    have g2 : ((m : Int) + 1 == 0) = false := by rw [beq_eq_false_iff_ne]; omega
    have g3 : wrap64 ((m : Int) + 1 - 1) = (m : Int) := by rw [IntWalk.wrap64_in _ (by omega)]; omega
    have g4 : (m : Int) + 1 - 1 = (m : Int) := by omega
    have g5 : (m : Int) < L := by omega
    rw [g1]
    go_enter Try.func27, Try.ntmps27
    go_wp2_with fail
    generalize w.alloc (.cells #[.int .i64 d, .slice (some ⟨b, o, none⟩) L c] 25) = w1 at *
    have k1 := C.fact (.head _) (i := 1) rfl
    simp only at k1
    go_wp2_with fail
    refine (Has.call C (endof_any ki at1 id ot nn _)).mono ?_
    rintro e w2 ⟨rfl, C2⟩
    go_wp2_with fail
    go_ret
    exact ⟨ret_i hb.out.symm, C2.low⟩

/-- Whether an event is in progress; its index; how far. -/
def doI (s : Int) (es : List Ev) : Bool := decide (doneN s es < es.length) && (okA (atE es (doneN s es)) && decide (begE es (doneN s es) < s))
def doK (s : Int) (es : List Ev) : Int := if doI s es then (doneN s es : Nat) else 0
def doU (s : Int) (es : List Ev) : Int := if doI s es then lowN (s - begE es (doneN s es)) (endA (atE es (doneN s es)) - begE es (doneN s es)) else 0
def doW (s : Int) (es : List Ev) : Int := if doI s es then lowD (s - begE es (doneN s es)) (endA (atE es (doneN s es)) - begE es (doneN s es)) else 0
/-- What Doing hands back. -/
def doA (s : Int) (es : List Ev) : Value := .tuple #[.int .i64 (doK s es), .agg #[.int .i64 (doU s es), .int .i64 (doW s es)], .bool (doI s es)]
theorem doA_no {s : Int} {es : List Ev} (h : doI s es = false) : doA s es = .tuple #[.int .i64 0, .agg #[.int .i64 0, .int .i64 0], .bool false] := by
  unfold doA doK doU doW; rw [h]; rfl
theorem doA_yes {s : Int} {es : List Ev} {n : Nat} {b e : Int} (h : doI s es = true) (hn : doneN s es = n) (hb : begE es n = b) (he : endA (atE es n) = e) :
    doA s es = .tuple #[.int .i64 (n : Int), .agg #[.int .i64 (lowN (s - b) (e - b)), .int .i64 (lowD (s - b) (e - b))], .bool true] := by
  subst hn hb he
  unfold doA doK doU doW; rw [h]; rfl
theorem done_not {s : Int} {es : List Ev} (h : doneN s es < es.length) (ho : okA (atE es (doneN s es)) = true) : s < endA (atE es (doneN s es)) := by
  have := done_stops (s := s) (es := es) (List.getElem?_eq_getElem h)
  rw [dnA_end, ← atE_of (List.getElem?_eq_getElem h), ho, Bool.true_and, decide_eq_false_iff_not] at this
  omega
set_option linter.unusedSimpArgs false in
set_option maxRecDepth 100000 in
set_option maxHeartbeats 4000000 in
theorem doing_any (d : Int) (sl : Value) (es : List Ev) (s : Int) (w : World) (hs : -9223372036854775808 ≤ s ∧ s ≤ 9223372036854775807) (hv : Row tE w sl es) :
    Calls Try.prog 13 #[.agg #[.int .i64 d, sl], .int .i64 s] w fun e w' => e = .returned (doA s es) ∧ Below w.heap.size w w' := by
  have C := has2 (w := w) [.int .i64 d, sl] [.int .i64 0, .int .i64 0] 25 36
  change Has w _ ((w.alloc (.cells #[.int .i64 d, sl] 25)).alloc (.cells #[.int .i64 0, .int .i64 0] 36)) at C
  obtain ⟨a, L, c, rfl, hL, hc1, hc2, R⟩ := hv.form
  have HR := Lib.hid R
  clear hv R
  go_enter Try.func13, Try.ntmps13
  go_wp2_with fail
  generalize (w.alloc (.cells #[.int .i64 d, .slice a L c] 25)).alloc (.cells #[.int .i64 0, .int .i64 0] 36) = w1 at *
  have k0 := C.fact (.head _) (i := 0) rfl
  have k1 := C.fact (.head _) (i := 1) rfl
  simp only at k0 k1
  go_wp2_with fail
  refine (Has.call C (done_any d _ es s _ (HR.out.later C.low))).mono ?_
  rintro e w2 ⟨rfl, C2⟩
  obtain ⟨n, hn⟩ : ∃ n, doneN s es = n := ⟨_, rfl⟩
  have Hn := Lib.hid hn
  have hle : n ≤ L := by have := doneN_le s es; omega
  rw [hn]
  clear hn C k0 k1
  have k0 := C2.fact (.head _) (i := 0) rfl
  have k1 := C2.fact (.head _) (i := 1) rfl
  have k2 := C2.tail.fact (.head _) (i := 0) rfl
  have k3 := C2.tail.fact (.head _) (i := 1) rfl
  have f2 := C2.tail.free (.head _) (i := 0) rfl
  have f3 := C2.tail.free (.head _) (i := 1) rfl
  simp only at k0 k1 k2 k3 f2 f3
  rcases Nat.lt_or_ge n L with hlt | hge
  · have g1 : ((n : Int) == (L : Int)) = false := by rw [beq_eq_false_iff_ne]; omega
    go_wp2_with fail
    refine (Has.call C2 (begin_any d _ es n _ (HR.out.later C2.low) (by omega))).mono ?_
    rintro e w3 ⟨rfl, C3⟩
    obtain ⟨b1, b2⟩ := begE_bd es n
    obtain ⟨bg, hbg⟩ : ∃ b, begE es n = b := ⟨_, rfl⟩
    have Hbg := Lib.hid hbg
    rw [hbg] at b1 b2 ⊢
    clear hbg k0 k1 k2 k3 f2 f3 C2
    have k0 := C3.fact (.head _) (i := 0) rfl
    have k1 := C3.fact (.head _) (i := 1) rfl
    simp only at k0 k1
    obtain ⟨b, o, ki, id, ot, nn, rfl, hx, c0, c1, c2, c3, c4⟩ := (HR.out.later C3.low).ev (k := n) (by omega)
    clear hx
    have g5 : (n : Int) < L := by omega
    go_wp2_with fail
    refine (Has.call C3 (endof_any ki (atE es n) id ot nn _)).mono ?_
    rintro e w4 ⟨rfl, C4⟩
    obtain ⟨e1, e2⟩ := endA_bd (atE es n)
    obtain ⟨en, hen⟩ : ∃ b, endA (atE es n) = b := ⟨_, rfl⟩
    obtain ⟨ok, hok⟩ : ∃ b, okA (atE es n) = b := ⟨_, rfl⟩
    have Hen := Lib.hid hen
    have Hok := Lib.hid hok
    rw [hen] at e1 e2 ⊢
    rw [hok]
    clear hen hok k0 k1 c0 c1 c2 c3 c4 C3
    have k2 := C4.tail.fact (.head _) (i := 0) rfl
    have k3 := C4.tail.fact (.head _) (i := 1) rfl
    have f2 := C4.tail.free (.head _) (i := 0) rfl
    have f3 := C4.tail.free (.head _) (i := 1) rfl
    simp only at k2 k3 f2 f3
    have no : doI s es = false → ∀ X : World, Has w [(w.heap.size + 1, [.int .i64 0, .int .i64 0]), (w.heap.size, [.int .i64 d, .slice (some ⟨b, o, none⟩) L c])] X →
        (Ending.returned (Value.tuple #[.int .i64 0, .agg #[.int .i64 0, .int .i64 0], .bool false]) = .returned (doA s es) ∧ Below w.heap.size w X) := fun h X hX => ⟨by rw [doA_no h], hX.low⟩
    have Hno := Lib.hid no
    clear no
    cases ok with
    | false =>
      have hI : doI s es = false := by unfold doI; rw [Hn.out, Hok.out]; simp
      have Hno2 := Lib.hid (Hno.out hI)
      clear hI Hno
      go_wp2_with fail
      have X := C4.swap.set2 (.int .i64 0) (.int .i64 0)
      generalize (w4.setCell ⟨w.heap.size + 1, 0, none⟩ (.int .i64 0)).setCell ⟨w.heap.size + 1, 1, none⟩ (.int .i64 0) = w5 at *
      obtain ⟨d1, d2⟩ := X.pt
      exact bodyPost_ret (v := .tuple #[.int .i64 0, .agg #[.int .i64 0, .int .i64 0], .bool false]) (by simp [results, Try.results13, go_sem, d1, d2]) rfl (Hno2.out _ X)
    | true =>
      have hse := done_not (s := s) (es := es) (by rw [Hn.out]; omega) (by rw [Hn.out]; exact Hok.out)
      rw [Hn.out, Hen.out] at hse
      by_cases hsb : s ≤ bg
      · have hI : doI s es = false := by unfold doI; rw [Hn.out, Hbg.out, decide_eq_false (show ¬ bg < s by omega)]; simp
        have Hno2 := Lib.hid (Hno.out hI)
        clear hI Hno
        go_wp2_with fail
        have X := C4.swap.set2 (.int .i64 0) (.int .i64 0)
        generalize (w4.setCell ⟨w.heap.size + 1, 0, none⟩ (.int .i64 0)).setCell ⟨w.heap.size + 1, 1, none⟩ (.int .i64 0) = w5 at *
        obtain ⟨d1, d2⟩ := X.pt
        exact bodyPost_ret (v := .tuple #[.int .i64 0, .agg #[.int .i64 0, .int .i64 0], .bool false]) (by simp [results, Try.results13, go_sem, d1, d2]) rfl (Hno2.out _ X)
      · have hI : doI s es = true := by unfold doI; rw [Hn.out, Hbg.out, Hok.out, decide_eq_true (show bg < s by omega), decide_eq_true (show n < es.length by omega)]; rfl
        have Hyes := Lib.hid (doA_yes hI Hn.out Hbg.out Hen.out)
        clear hI Hno
        have q1 : wrap64 (s - bg) = s - bg := IntWalk.wrap64_in _ ⟨by omega, by omega⟩
        have q2 : wrap64 (en - bg) = en - bg := IntWalk.wrap64_in _ ⟨by omega, by omega⟩
        have q3 : 1 ≤ en - bg := by omega
        go_wp2_with fail
        refine (Has.call C4 (lowest_all (s - bg) (en - bg) _ (by omega) (by omega))).mono ?_
        rintro e w5 ⟨rfl, C5⟩
        obtain ⟨u, hu⟩ : ∃ u, lowN (s - bg) (en - bg) = u := ⟨_, rfl⟩
        obtain ⟨z, hz⟩ : ∃ u, lowD (s - bg) (en - bg) = u := ⟨_, rfl⟩
        have Hu := Lib.hid hu
        have Hz := Lib.hid hz
        rw [hu, hz]
        clear hu hz k2 k3 f2 f3 C4 q1 q2 q3
        have C6 := C5.push [.int .i64 u, .int .i64 z] 36
        go_wp2_with fail
        generalize w5.alloc (.cells #[.int .i64 u, .int .i64 z] 36) = w6 at *
        generalize w5.heap.size = G at *
        have k0 := C6.fact (.head _) (i := 0) rfl
        have k1 := C6.fact (.head _) (i := 1) rfl
        have k2 := C6.tail.tail.fact (.head _) (i := 0) rfl
        have k3 := C6.tail.tail.fact (.head _) (i := 1) rfl
        have f2 := C6.tail.tail.free (.head _) (i := 0) rfl
        have f3 := C6.tail.tail.free (.head _) (i := 1) rfl
        simp only at k0 k1 k2 k3 f2 f3
        go_region
        all_goals
          have X := (C6.third.set2 (.int .i64 u) (.int .i64 z)).drew
          generalize ((w6.setCell ⟨w.heap.size + 1, 0, none⟩ (.int .i64 u)).setCell ⟨w.heap.size + 1, 1, none⟩ (.int .i64 z)).drew = w7 at *
          obtain ⟨d1, d2⟩ := X.pt
          go_wp2_with fail
          exact bodyPost_ret (v := .tuple #[.int .i64 (n : Int), .agg #[.int .i64 u, .int .i64 z], .bool true]) (by simp [results, Try.results13, go_sem, d1, d2]) rfl ⟨by rw [Hyes.out, Hu.out, Hz.out], X.low⟩
  · have g1 : ((n : Int) == (L : Int)) = true := by rw [beq_iff_eq]; omega
    have hI : doI s es = false := by unfold doI; rw [Hn.out, decide_eq_false (by omega)]; rfl
    have Hno2 := Lib.hid (doA_no hI)
    clear hI
    go_wp2_with fail
    have X := C2.swap.set2 (.int .i64 0) (.int .i64 0)
    generalize (w2.setCell ⟨w.heap.size + 1, 0, none⟩ (.int .i64 0)).setCell ⟨w.heap.size + 1, 1, none⟩ (.int .i64 0) = w5 at *
    obtain ⟨d1, d2⟩ := X.pt
    exact bodyPost_ret (v := .tuple #[.int .i64 0, .agg #[.int .i64 0, .int .i64 0], .bool false]) (by simp [results, Try.results13, go_sem, d1, d2]) rfl ⟨by rw [Hno2.out], X.low⟩
end Go.Proofs.Ytfcoblapbcdaiaa
