/- Maps of the call's own whose keys are stops. -/
import Derived.Test.YtoaldbjcpfkcjaaGreatcKc
import Derived.Maps.OwnSet
import Derived.Maps.OwnOps
import Derived.Maps.AppendAt
import Derived.DeepKeys5
namespace Go.Proofs.YtoaldbjcpfkcjaaGreat
open Go.RowKit Go.Lib Go.Maps

theorem laidOut' : laidOutB Tryz.prog = true := by kernel_rfl
theorem law39 : Keyed Tryz.prog 39 := Keyed.of_law (deep_law_gate laidOut' (of_decide_eq_true (by kernel_rfl)) (of_decide_eq_true (by kernel_rfl)) (by kernel_rfl) (by kernel_rfl))
def K64 (k : Key) : Prop := I64 k.1 ∧ I64 k.2.1 ∧ I64 k.2.2
theorem i64_wf {x : Int} (h : I64 x) : (Lit.int .i64 x).wf = true := WalkArith.wf_i64 h
def kl (k : Key) : Lit := .string (keyBytes [.int .i64 k.1, .int .i64 k.2.1, .int .i64 k.2.2])
theorem c39 : Tryz.prog.cellsOf 39 = 3 := by kernel_rfl
theorem c37 : Tryz.prog.cellsOf 37 = 2 := by kernel_rfl
theorem c3 : Tryz.prog.cellsOf 3 = 1 := by kernel_rfl
theorem kt39 : Tryz.prog.keyType 39 = true := by kernel_rfl
theorem tsz : 2 ≤ Tryz.prog.types.size := of_decide_eq_true (by kernel_rfl)
theorem kl3 (d : Nat) {x : Int} (h : (Lit.int .i64 x).wf = true) : Tryz.prog.keyLits (d + 1) 3 [.int .i64 x] = some [.int .i64 x] := by
 simp only [Program.keyLits, Tryz.underlying3, h, and_self, if_true]
theorem kl37 (d : Nat) {x y : Int} (h : (Lit.int .i64 x).wf = true) (k : (Lit.int .i64 y).wf = true) : Tryz.prog.keyLits (d + 2) 37 [.int .i64 x, .int .i64 y] = some [.int .i64 x, .int .i64 y] := by
 rw [Program.keyLits.eq_def]
 simp only [Tryz.underlying37, c37]
 rw [if_pos (by simp)]
 simp [List.mapM_cons, c3, kl3 d h, kl3 d k]
theorem kl39 (d : Nat) {x y z : Int} (h : (Lit.int .i64 x).wf = true) (k : (Lit.int .i64 y).wf = true) (l : (Lit.int .i64 z).wf = true) : Tryz.prog.keyLits (d + 3) 39 [.int .i64 x, .int .i64 y, .int .i64 z] = some [.int .i64 x, .int .i64 y, .int .i64 z] := by
 rw [Program.keyLits.eq_def]
 simp only [Tryz.underlying39, c39]
 rw [if_pos (by simp)]
 simp [List.mapM_cons, c3, c37, kl37 d h k, kl3 (d + 1) l]
theorem key_kl {k : Key} (h : K64 k) : keyOf Tryz.prog 39 (kv k) = some (kl k) := by
 obtain ⟨x, y, z⟩ := k
 obtain ⟨h1, h2, h3⟩ := h
 have w1 := i64_wf h1
 have w2 := i64_wf h2
 have w3 := i64_wf h3
 simp only at w1 w2 w3
 have hf : (kv (x, y, z)).formed Tryz.prog 39 = true := by
  unfold kv
  simp only [Value.formed, Tryz.underlying39, c39]
  rfl
 obtain ⟨d, hd⟩ : ∃ d, Tryz.prog.types.size + 1 = d + 3 := ⟨Tryz.prog.types.size - 2, by have := tsz; omega⟩
 unfold keyOf
 rw [Tryz.underlying39]
 simp only [kt39, hf, Bool.and_self, if_true]
 rw [hd]
 have := kl39 d w1 w2 w3
 unfold kv kl Value.cells
 simp only [this, Option.map_some]
theorem kv_inj {a b : Key} (h : kv a = kv b) : a = b := by
 obtain ⟨x, y, z⟩ := a
 obtain ⟨p, q, r⟩ := b
 unfold kv at h
 simp only [Value.agg.injEq, Array.mk.injEq, List.cons.injEq, Value.int.injEq, true_and, and_true] at h
 obtain ⟨rfl, rfl, rfl⟩ := h
 rfl
theorem kl_ne {a b : Key} (ha : K64 a) (hb : K64 b) (h : a ≠ b) : kl a ≠ kl b := fun e => h (kv_inj (law39.inj (key_kl ha) (by rw [e]; exact key_kl hb)))
theorem kl_key {k : Key} (h : K64 k) : WideAt.IsKeyLit (kl k) := law39.key (key_kl h)
theorem held_eq {a b : Value} (h : (DataW.held a : DataW Value) = .held b) : a = b := by
 have := congrArg (fun d : DataW Value => match d with | .held x => x | _ => a) h
 exact this
/-- What an element reads as: itself. -/
def RV (v : Value) : Option (DataW Value × List MemPlace) := some (.held v, [])
/-- Block b is a map of at most n entries, which says what f says. -/
def MapV (w : World) (b n : Nat) (f : Key → Option Value) : Prop :=
 ∃ D : DataW Value, w.ownsMap Tryz.prog 39 RV b n D ∧ ∀ k, K64 k → Maps.has D (kl k) = (f k).isSome ∧ ∀ v, f k = some v → ∀ z, D.atKey (kl k) z = .held v
theorem MapV.made (w : World) : MapV (w.alloc (.map #[] 0)) w.heap.size 0 (fun _ => none) :=
 ⟨_, World.ownsMap_made w Tryz.prog 39 RV, fun _ _ => ⟨rfl, fun _ h => by cases h⟩⟩
theorem MapV.lt {w : World} {b n : Nat} {f : Key → Option Value} (h : MapV w b n f) : b < w.heap.size := by obtain ⟨D, h1, -⟩ := h; exact h1.lt
theorem MapV.mono {w : World} {b n n' : Nat} {f : Key → Option Value} (h : MapV w b n f) (hn : n ≤ n') : MapV w b n' f := by obtain ⟨D, h1, h2⟩ := h; exact ⟨D, h1.mono hn, h2⟩
theorem MapV.later {w w' : World} {b n : Nat} {f : Key → Option Value} (h : MapV w b n f) (g : Grows w w') : MapV w' b n f := by
 have hl := h.lt
 obtain ⟨D, h1, h2⟩ := h
 obtain ⟨es, clock, hb, q⟩ := h1
 exact ⟨D, ⟨es, clock, (g.block b hl).trans hb, q⟩, h2⟩
theorem MapV.kept {w w' : World} {b n : Nat} {f : Key → Option Value} (h : MapV w b n f) {row : Option Nat} (g : w.grownBy w' row) (hne : some b ≠ row) : MapV w' b n f := by
 obtain ⟨D, h1, h2⟩ := h
 exact ⟨D, h1.kept g hne, h2⟩
theorem MapV.setCell {w : World} {b n : Nat} {f : Key → Option Value} (h : MapV w b n f) {a : Addr} (ha : b ≠ a.block) (u : Value) : MapV (w.setCell a u) b n f := by
 obtain ⟨D, h1, h2⟩ := h
 exact ⟨D, h1.setCell ha u, h2⟩
theorem MapV.look {w : World} {b n : Nat} {f : Key → Option Value} (h : MapV w b n f) {t e : TypeId} (ht : Tryz.prog.underlying t = some (.map 39 e)) {z : Value} (hz : (zeroValue e).run Tryz.prog w = .ok z w) {k : Key} (hk : K64 k) :
  (Instr.lookup t (.map (some b)) (kv k) false).run Tryz.prog w = .ok ((f k).getD z) w := by
 obtain ⟨D, h1, h2⟩ := h
 obtain ⟨v, ps, hr, hv⟩ := h1.lookup law39 ht hz (zd := .held z) (zp := []) rfl (key_kl hk)
 obtain ⟨a1, a2⟩ := h2 k hk
 unfold RV at hv
 simp only [Option.some.injEq, Prod.mk.injEq] at hv
 obtain ⟨hv, -⟩ := hv
 cases hf : f k with
 | none =>
  rw [hf] at a1
  have he := hv.trans (atKey_of_not_has a1 _)
  have he := held_eq he
  subst he
  exact hr
 | some u =>
  have he := hv.trans (a2 u hf _)
  have he := held_eq he
  subst he
  exact hr
theorem MapV.look_ok {w : World} {b n : Nat} {f : Key → Option Value} (h : MapV w b n f) {t e : TypeId} (ht : Tryz.prog.underlying t = some (.map 39 e)) {z : Value} (hz : (zeroValue e).run Tryz.prog w = .ok z w) {k : Key} (hk : K64 k) :
  (Instr.lookup t (.map (some b)) (kv k) true).run Tryz.prog w = .ok (.tuple #[(f k).getD z, .bool (f k).isSome]) w := by
 obtain ⟨D, h1, h2⟩ := h
 obtain ⟨v, ps, hr, hv⟩ := h1.look_ok law39 ht hz (zd := .held z) (zp := []) rfl (key_kl hk)
 obtain ⟨a1, a2⟩ := h2 k hk
 rw [a1] at hr
 unfold RV at hv
 simp only [Option.some.injEq, Prod.mk.injEq] at hv
 obtain ⟨hv, -⟩ := hv
 cases hf : f k with
 | none =>
  rw [hf] at a1
  rw [hf] at hr
  have he := hv.trans (atKey_of_not_has a1 _)
  have he := held_eq he
  subst he
  exact hr
 | some u =>
  rw [hf] at hr
  have he := hv.trans (a2 u hf _)
  have he := held_eq he
  subst he
  exact hr
def VSet (f : Key → Option Value) (k : Key) (v : Value) : Key → Option Value := fun l => if l = k then some v else f l
theorem MapV.update {w : World} {b n : Nat} {f : Key → Option Value} (h : MapV w b n f) {t e : TypeId} (ht : Tryz.prog.underlying t = some (.map 39 e)) (hn : n < maxLen) {k : Key} (hk : K64 k) (v : Value) :
  ∃ w', (Instr.mapUpdate t (.map (some b)) (kv k) v).run Tryz.prog w = .ok () w' ∧ MapV w' b (n + 1) (VSet f k v) ∧ w.grownBy w' (some b) := by
 obtain ⟨D, h1, h2⟩ := h
 obtain ⟨w', hr, o1, g1⟩ := h1.update law39 ht hn (key_kl hk) (val := v) (d := .held v) (ps := []) rfl
 refine ⟨w', hr, ⟨_, o1, fun l hl => ?_⟩, g1⟩
 by_cases e : l = k
 ·subst e
  unfold VSet
  rw [if_pos rfl]
  refine ⟨has_put_same h1.isMap (kl_key hl) _, fun u hu z => ?_⟩
  cases hu
  exact atKey_put_same h1.isMap (kl_key hl) _ _
 ·unfold VSet
  rw [if_neg e]
  obtain ⟨a1, a2⟩ := h2 l hl
  have ne := kl_ne hl hk e
  exact ⟨by rw [has_put_other ne]; exact a1, fun u hu z => by rw [atKey_put_other ne]; exact a2 u hu z⟩
/-- A world that has grown but for a map. -/
theorem Has.grownM {w0 W W' : World} {bs : List (Nat × List Value)} {b : Nat} (h : Has w0 bs W) (g : W.grownBy W' (some b)) (hb : w0.heap.size ≤ b) (hbs : ∀ p ∈ bs, p.1 ≠ b) : Has w0 bs W' := by
 refine ⟨fun p hp i u hu => ?_, fun p hp => Nat.lt_of_lt_of_le (h.lt p hp) g.size, h.ge, h.nd, h.low.grown g h.low.size (fun k e => by injection e with e; omega)⟩
 obtain ⟨c1, c2⟩ := h.c p hp i u hu
 have hk := g.block p.1 (h.lt p hp) (fun e => hbs p hp (by injection e))
 constructor
 ·rw [← c1]; unfold World.cell?; simp only [hk]
 ·rw [← c2]; unfold World.frozen?; simp only [hk]
/-- What a call that writes into the map b has made: blocks of its own, behind the world w. -/
structure HM (w0 w : World) (b : Nat) (bs : List (Nat × List Value)) (W : World) : Prop where
 h : Has w0 bs W
 g : w.grownBy W (some b)
 n : ∀ p ∈ bs, w.heap.size ≤ p.1
 lb : b < w.heap.size
 lo : w0.heap.size ≤ b
theorem grownBy_grows {w w' : World} (g : Grows w w') (row : Option Nat) : w.grownBy w' row := ⟨g.os, g.tape, g.output, g.size, fun k hk _ => g.block k hk⟩
theorem HM.start {w0 w : World} {b : Nat} (L : Below w0.heap.size w0 w) (hb : b < w.heap.size) (hl : w0.heap.size ≤ b) : HM w0 w b [] w := ⟨Has.nil L, World.grownBy.refl _ _, fun _ h => (by cases h), hb, hl⟩
theorem HM.later {w0 w W W' : World} {b : Nat} {bs : List (Nat × List Value)} (h : HM w0 w b bs W) (g : Grows W W') : HM w0 w b bs W' := ⟨h.h.later g, h.g.trans (grownBy_grows g _), h.n, h.lb, h.lo⟩
theorem HM.push {w0 w W : World} {b : Nat} {bs : List (Nat × List Value)} (h : HM w0 w b bs W) (xs : List Value) (T : TypeId) : HM w0 w b ((W.heap.size, xs) :: bs) (W.alloc (.cells xs.toArray T)) :=
 ⟨h.h.push xs T, h.g.trans (World.grownBy_alloc _ _ _), fun p hp => by rcases List.mem_cons.1 hp with rfl | hp; exact h.g.size; exact h.n p hp, h.lb, h.lo⟩
theorem grownBy_set {W : World} {c o b : Nat} (v : Value) {w : World} (h : w.grownBy W (some b)) (hc : w.heap.size ≤ c) : w.grownBy (W.setCell ⟨c, o, none⟩ v) (some b) :=
 ⟨h.os, h.tape, h.output, by rw [World.size_setCell]; exact h.size, fun k hk hne => (Below.heap_setCell W ⟨c, o, none⟩ v k (by simp only; omega)).trans (h.block k hk hne)⟩
theorem HM.set {w0 w W : World} {b c : Nat} {xs : List Value} {bs : List (Nat × List Value)} (h : HM w0 w b ((c, xs) :: bs) W) (k : Nat) (hk : k < xs.length) (u : Value) : HM w0 w b ((c, xs.set k u) :: bs) (W.setCell ⟨c, k, none⟩ u) :=
 ⟨h.h.set k hk u, grownBy_set u h.g (h.n (c, xs) (.head _)), fun p hp => by rcases List.mem_cons.1 hp with rfl | hp; exact h.n (c, xs) (.head _); exact h.n p (.tail _ hp), h.lb, h.lo⟩
theorem HM.swap {w0 w W : World} {b : Nat} {p q : Nat × List Value} {bs : List (Nat × List Value)} (h : HM w0 w b (p :: q :: bs) W) : HM w0 w b (q :: p :: bs) W :=
 ⟨h.h.swap, h.g, fun x hx => by rcases List.mem_cons.1 hx with rfl | hx; exact h.n _ (.tail _ (.head _)); rcases List.mem_cons.1 hx with rfl | hx; exact h.n _ (.head _); exact h.n _ (.tail _ (.tail _ hx)), h.lb, h.lo⟩
theorem HM.tail {w0 w W : World} {b : Nat} {p : Nat × List Value} {bs : List (Nat × List Value)} (h : HM w0 w b (p :: bs) W) : HM w0 w b bs W := ⟨h.h.tail, h.g, fun x hx => h.n x (.tail _ hx), h.lb, h.lo⟩
theorem HM.upd {w0 w W W' : World} {b : Nat} {bs : List (Nat × List Value)} (h : HM w0 w b bs W) (g : W.grownBy W' (some b)) : HM w0 w b bs W' :=
 ⟨h.h.grownM g h.lo (fun p hp e => by have := h.n p hp; have := h.lb; omega), h.g.trans g, h.n, h.lb, h.lo⟩
theorem HM.drew {w0 w W : World} {b : Nat} {bs : List (Nat × List Value)} (h : HM w0 w b bs W) : HM w0 w b bs W.drew := h.later ((Below.refl _ W).drew)
theorem HM.ne {w0 w W : World} {b c : Nat} {xs : List Value} {bs : List (Nat × List Value)} (h : HM w0 w b ((c, xs) :: bs) W) : b ≠ c := fun e => by have := h.n (c, xs) (.head _); have := h.lb; simp only at *; omega
theorem HM.call {w0 w W : World} {b : Nat} {bs : List (Nat × List Value)} {k : FuncId} {args : Array Value} {E : Ending} (h : HM w0 w b bs W) (hc : Calls Tryz.prog k args W fun e w' => e = E ∧ Below W.heap.size W w') : Calls Tryz.prog k args W fun e w' => e = E ∧ HM w0 w b bs w' ∧ Grows W w' :=
 hc.mono fun _ _ ⟨he, hb⟩ => ⟨he, h.later hb, hb⟩

end Go.Proofs.YtoaldbjcpfkcjaaGreat
