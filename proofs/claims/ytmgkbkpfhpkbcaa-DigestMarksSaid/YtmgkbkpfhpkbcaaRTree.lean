/- The reference's trees. -/
import Derived.Test.YtmgkbkpfhpkbcaaVfn
namespace Go.Proofs.Ytmgkbkpfhpkbcaa
open Go.RowKit Go.Lib

attribute [local go_sem] str

theorem owns_later {w w' : World} {B e n : Nat} {v : Value} {xs : List Value} (h : w.ownsRow B e 1 v n xs) (g : Grows w w') : w'.ownsRow B e 1 v n xs :=
  h.kept (row := none) ⟨g.os, g.tape, g.output, g.size, fun k hk _ => g.block k hk⟩ (by cases hv : v.ownBlock <;> simp)

theorem owns_form {w : World} {B n : Nat} {v : Value} {xs : List Value} (h : w.ownsRow B 9 1 v n xs) : ∃ ao cap, v = .slice ao n cap := by
  rcases h.2 with ⟨hv, h0⟩ | ⟨g, cap, cur, hv, _⟩
  · exact ⟨_, _, by rw [hv, h0]⟩
  · exact ⟨_, _, hv⟩

/-- A string is appended to a slice of the call's own. -/
theorem app9 {ops : Array Oper} {rest : List Oper} {o : Oper} {a : Act} {w w0 : World} {Q : Exit → Act → World → Prop} (hgd : o.guard = none) (s x : Operand)
    (ho : o.op = .call { callee := .builtin .append, args := #[s, x], argTypes := #[28, 28] }) {v : Value} {n : Nat} {xs : List Value} (g : Grows w0 w) (hs : a.eval s = v) (hown : w.ownsRow w0.heap.size 9 1 v n xs)
    {b : Nat} (t : List UInt8) (hx : a.eval x = .slice (some ⟨b, 0, none⟩) 1 1) (hnew : w.cell? ⟨b, 0, none⟩ = some (.string ⟨t.toArray⟩)) (hn : n ≤ 100000)
    (h : ∀ v' w', w'.ownsRow w0.heap.size 9 1 v' (n + 1) (xs ++ [str t]) → Grows w0 w' → wpList Try.prog ops Q rest (a.put o.dst v') w') : wpList Try.prog ops Q (o :: rest) a w := by
  obtain ⟨i0, hi, hz0, hz1, hz2⟩ := info_parts info9
  refine wpList_append_own w hgd s x 28 ho w0.heap.size 9 i0 (.string ⟨#[]⟩) 1 16 Try.underlying28 hi hz0 hz1 hz2 rfl (by decide) v n xs hs hown ⟨b, 0, none⟩ 1 1 [str t] hx rfl ?_ ?_ (by unfold maxLen; omega) (by omega) g.size (fun v' w' h1 h2 _ => h v' w' h1 (g.grown h2 g.size (fun k hk => (hown.lt k hk).1)))
  · intro j u hj
    match j, hj with
    | 0, hj => simp at hj; subst hj; rw [Addr.add_mid]; exact hnew
  · intro u hu
    simp at hu
    subst hu
    rfl

theorem leaf_snoc (l : List (List UInt8)) (k : Nat) (h : k < l.length) : strs ((l.take (k + 1)).map leaf) = strs ((l.take k).map leaf) ++ [str (leaf l[k])] := by
  rw [take_snoc l k h, List.map_append]
  unfold strs
  rw [List.map_append]
  rfl
theorem rep_snoc (l : List (List UInt8)) (j : Nat) : strs (l ++ List.replicate (j + 1) rest) = strs (l ++ List.replicate j rest) ++ [str rest] := by
  rw [List.replicate_succ', ← List.append_assoc]
  unfold strs
  rw [List.map_append]
  rfl
/-- The powers of two up to 32. -/
def P2 (m : Nat) : Prop := m = 1 ∨ m = 2 ∨ m = 4 ∨ m = 8 ∨ m = 16 ∨ m = 32
theorem p2_step {m n : Nat} (hn : n ≤ 32) (h : P2 m) (hle : m ≤ wd n) (hlt : m < n) : P2 (2 * m) ∧ 2 * m ≤ wd n := by
  unfold P2 wd at *
  rcases h with rfl | rfl | rfl | rfl | rfl | rfl <;> refine ⟨by omega, ?_⟩ <;> (repeat' split at hle) <;> (repeat' split) <;> omega
theorem p2_end {m n : Nat} (hn : n ≤ 32) (h : P2 m) (hle : m ≤ wd n) (hlt : ¬ m < n) : m = wd n := by
  unfold P2 wd at *
  rcases h with rfl | rfl | rfl | rfl | rfl | rfl <;> (repeat' split at hle) <;> (repeat' split) <;> omega

def lenOf : Value → Nat
  | .slice _ n _ => n
  | _ => 0
theorem lenOf_owns {w : World} {B n : Nat} {v : Value} {xs : List Value} (h : w.ownsRow B 9 1 v n xs) : lenOf v = n := by
  obtain ⟨ao, cap, rfl⟩ := owns_form h
  rfl

set_option maxHeartbeats 1000000 in
theorem rleaves_own (v : Value) (l : List (List UInt8)) (w : World) (hv : Row w v (strs l)) (hl : ∀ s ∈ l, s.length ≤ 1000) (h32 : l.length ≤ 32) :
    Calls Try.prog 38 #[v] w fun e w' => ∃ v' n, e = .returned v' ∧ w'.ownsRow w.heap.size 9 1 v' n (strs (lowL l)) ∧ Grows w w' := by
  obtain ⟨a, cap, rfl, hc1, hc2, hrow⟩ := hv
  rw [strs_length] at hc1
  rw [strs_length]
  have b0 : Grows w w := Below.refl _ _
  have o0 : w.ownsRow w.heap.size 9 1 (.slice none 0 0) 0 (strs ((l.take 0).map leaf)) := World.ownsRow_nil _ _ _ _
  go_enter Try.func38, Try.ntmps38
  go_wp2_with fail
  go_loopw [3, 4] (fun s i wr => ∃ k : Nat, k ≤ l.length ∧ i = .int .i64 k ∧ wr.ownsRow w.heap.size 9 1 s k (strs ((l.take k).map leaf)) ∧ Grows w wr) (fun _ i _ => l.length - (RowKit.intOf i).toNat)
  case atStart => exact ⟨0, Nat.zero_le _, rfl, o0, b0⟩
  case round =>
    clear b0 o0
    obtain ⟨k, hk, rfl, o1, b1⟩ := hrel
    by_cases hlt : k < l.length
    · rcases hrow with h0 | ⟨b, o, rfl, hcell⟩
      · rw [show l = [] from List.map_eq_nil_iff.1 h0] at hlt
        simp at hlt
      · have hcell0 := hcell k (str l[k]) (by unfold strs; rw [List.getElem?_map, List.getElem?_eq_getElem hlt]; rfl)
        have hcell1 : wr.cell? ⟨b, o + k, none⟩ = some (str l[k]) := (b1.cell (World.block_lt_of_cell? w _ hcell0)).trans hcell0
        have hln := hl l[k] (List.getElem_mem hlt)
        have HS := Lib.hid (leaf_snoc l k hlt)
        clear hcell hcell0
        unfold str at hcell1
        generalize l[k] = n at *
        go_wp2_with fail
        refine (rleaf_any n _ (by omega)).mono ?_
        rintro e w2 ⟨rfl, g2⟩
        have o2 := owns_later o1 g2
        have b2 := b1.then g2
        clear o1 b1 g2 hcell1
        change Hid (strs ((l.take (k + 1)).map leaf) = strs ((l.take k).map leaf) ++ [str (leaf n)]) at HS
        rw [show dig (3 :: n) = leaf n from rfl]
        generalize leaf n = D at *
        generalize strs ((l.take k).map leaf) = X0 at *
        have hnew := World.cell?_alloc_new w2 #[.string ⟨D.toArray⟩] 9 0
        go_wp2_with (at_builtin; refine app9 rfl _ _ rfl (b2.alloc b2.size _) rfl (owns_later o2 ((Below.refl _ _).alloc (Nat.le_refl _) _)) D rfl hnew (by omega) ?_; intro v' w4 o4 b4)
        clear o2 b2 hnew
        go_roundw
        case rel => exact ⟨k + 1, by omega, by go_num, by rw [HS.out]; exact o4, b4⟩
        case measure => simp [RowKit.intOf]; omega
    · obtain rfl : k = l.length := by omega
      rw [List.take_length] at o1
      have h1 : l.length ≤ wd l.length := le_wd h32
      have hw32 := wd_le l.length
      have HL := Lib.hid (lowL_length l h32)
      go_wp2_with fail
      go_loop [5] (fun m => ∃ j : Nat, m = .int .i64 j ∧ P2 j ∧ j ≤ wd l.length) (fun m => wd l.length - (RowKit.intOf m).toNat)
      case atStart => exact ⟨1, rfl, .inl rfl, wd_pos _⟩
      case round =>
        obtain ⟨j, rfl, hj, hle⟩ := hrel
        have HJ := Lib.hid hj
        clear hj
        by_cases hlt2 : j < l.length
        · have hs := p2_step h32 HJ.out hle hlt2
          have HS := Lib.hid hs.1
          have hs2 := hs.2
          have hpos : 1 ≤ j := by rcases HJ.out with h | h | h | h | h | h <;> omega
          clear hs
          go_wp2_with fail
          go_round
          case rel => exact ⟨2 * j, by simp, HS.out, hs2⟩
          case measure => simp [RowKit.intOf]; omega
        · have he := p2_end h32 HJ.out hle hlt2
          subst he
          have HE := Lib.hid (show strs (l.map leaf ++ List.replicate 0 rest) = strs (l.map leaf) by simp)
          rw [← HE.out] at o1
          clear HE HJ hle hlt2 hlt
          have hnlt : ¬ wd l.length < l.length := by omega
          have hD := Lib.hid (show dig [5] = rest from rfl)
          have hlen := Lib.hid (show lowL l = l.map leaf ++ List.replicate (wd l.length - l.length) rest from rfl)
          generalize wd l.length = W at *
          go_wp2_with fail
          clear hnlt
          go_loopw [3] (fun s wr => ∃ j : Nat, l.length + j ≤ W ∧ wr.ownsRow w.heap.size 9 1 s (l.length + j) (strs (l.map leaf ++ List.replicate j rest)) ∧ Grows w wr) (fun s _ => W - lenOf s)
          case atStart => exact ⟨0, h1, o1, b1⟩
          case round =>
            clear o1 b1
            obtain ⟨j, hj, o1, b1⟩ := hrel
            have HS := Lib.hid (rep_snoc (l.map leaf) j)
            generalize hX : strs (l.map leaf ++ List.replicate j rest) = X0 at *
            have HX0 := Lib.hid hX
            clear hX
            obtain ⟨ao, cap', rfl⟩ := owns_form o1
            by_cases hlt : l.length + j < W
            · go_wp2_with fail
              refine (rof_any [5] _ (by simp)).mono ?_
              rintro e w2 ⟨rfl, g2⟩
              rw [hD.out]
              have o2 := owns_later o1 g2
              have b2 := b1.then g2
              clear o1 b1 g2
              generalize hDD : rest = D at *
              have HDD := Lib.hid hDD
              clear hDD
              have hnew := World.cell?_alloc_new w2 #[.string ⟨D.toArray⟩] 9 0
              go_wp2_with (at_builtin; refine app9 rfl _ _ rfl (b2.alloc b2.size _) rfl (owns_later o2 ((Below.refl _ _).alloc (Nat.le_refl _) _)) D rfl hnew (by omega) ?_; intro v' w4 o4 b4)
              clear o2 b2 hnew
              have hl4 := lenOf_owns o4
              go_roundw
              case rel => exact ⟨j + 1, by omega, by rw [HDD.out, HS.out]; exact o4, b4⟩
              case measure => rw [hl4]; simp [lenOf]; omega
            · obtain rfl : j = W - l.length := by omega
              have HZ := Lib.hid (show X0 = strs (lowL l) by rw [hlen.out]; exact HX0.out.symm)
              go_wp2_with fail
              go_ret
              exact ⟨_, _, rfl, by rw [← HZ.out]; exact o1, b1⟩

theorem rleaves_any (v : Value) (l : List (List UInt8)) (w : World) (hv : Row w v (strs l)) (hl : ∀ s ∈ l, s.length ≤ 1000) (h32 : l.length ≤ 32) :
    Calls Try.prog 38 #[v] w fun e w' => ∃ v', e = .returned v' ∧ Row w' v' (strs (lowL l)) ∧ Grows w w' := by
  refine (rleaves_own v l w hv hl h32).mono ?_
  rintro e w' ⟨v', n, rfl, o, g⟩
  exact ⟨v', rfl, Row.of_owns o, g⟩

end Go.Proofs.Ytmgkbkpfhpkbcaa
