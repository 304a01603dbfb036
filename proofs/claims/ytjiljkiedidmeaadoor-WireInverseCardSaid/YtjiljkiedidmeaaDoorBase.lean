/- What every walk of the wire laws stands on: the library's variables, and what of a world stays. -/
import Derived.Test.YtjiljkiedidmeaaDoorShelf
import Derived.Test.YtjiljkiedidmeaaDoorText
import Derived.WalkKit
import Derived.WalkSpells
import Derived.WalkLawsBesides
import Derived.Handy
import Derived.Lib.Hide
import Derived.Lib.SmallJoins
import Derived.Lib.QuietBelow
import Derived.Deep.QuietTactic
import Derived.BigQuiet
import Derived.Deep.DeepCutAuto
import Derived.Deep.CutBlock
import Derived.WalkMore
import Derived.ScopeJumps
namespace Go.Proofs.YtjiljkiedidmeaaDoor
open Go.RowKit Go.Lib

theorem gTab : Tryd.prog.globalNamed "internal/strconv.uint64pow10" = some 0 := by kernel_rfl
theorem gSyn : Tryd.prog.globalNamed "strconv.ErrSyntax" = some 2 := by kernel_rfl
theorem gRng : Tryd.prog.globalNamed "strconv.ErrRange" = some 3 := by kernel_rfl

/-- The library's variables that a walk reads, as the program's start leaves them. -/
structure Env (w : World) : Prop where
  size : 4 ≤ w.heap.size
  tab : Lib.TabIs Tryd.prog w "internal/strconv.uint64pow10" .u64 Lib.pow10Tab
  max : ∃ m, w.cell? ⟨1, 0, none⟩ = some (.int .i64 m)
  syn : ∃ tp p, w.var? Tryd.prog "strconv.ErrSyntax" = some #[.iface tp p]
  rng : ∃ tp p, w.var? Tryd.prog "strconv.ErrRange" = some #[.iface tp p]

theorem var_same {w w' : World} {n : String} {g : Nat} (hg : Tryd.prog.globalNamed n = some g) (h : w'.heap[g]? = w.heap[g]?) : w'.var? Tryd.prog n = w.var? Tryd.prog n := by
  unfold World.var?
  rw [hg]
  simp only [Option.bind_some]
  rw [h]

theorem Env.same {w w' : World} (E : Env w) (hs : w.heap.size ≤ w'.heap.size) (h : ∀ k, k < 4 → w'.heap[k]? = w.heap[k]?) : Env w' := by
  obtain ⟨e1, e2, e3, e4, e5⟩ := E
  refine ⟨by omega, ?_, ?_, ?_, ?_⟩
  · unfold Lib.TabIs at *; rw [var_same gTab (h 0 (by omega))]; exact e2
  · rw [World.cell?_of_block (w := w) (h 1 (by omega))]; exact e3
  · rw [var_same gSyn (h 2 (by omega))]; exact e4
  · rw [var_same gRng (h 3 (by omega))]; exact e5

theorem Env.below {w w' : World} {B : Nat} (E : Env w) (hb : Below B w w') (hB : 4 ≤ B) : Env w' := E.same hb.size fun k hk => hb.block k (by omega)
theorem Env.grows {w w' : World} (E : Env w) (hb : Below w.heap.size w w') : Env w' := E.below hb E.size
theorem Env.drew {w : World} (E : Env w) : Env w.drew := E.same (Nat.le_refl _) fun _ _ => rfl
theorem Env.alloc {w : World} (E : Env w) (o : Obj) : Env (w.alloc o) := E.grows ((Below.refl _ w).alloc (Nat.le_refl _) o)
theorem Env.grown {w w' : World} {b : Nat} (E : Env w) (hg : w.grownBy w' (some b)) (hb : 4 ≤ b) : Env w' :=
  E.same hg.size fun k hk => hg.block k (by have := E.size; omega) (by simp; omega)

/-- Nothing of what was there has turned. -/
abbrev Grows (w w' : World) : Prop := Below w.heap.size w w'
theorem Grows.rfl' (w : World) : Grows w w := Below.refl _ _
theorem Grows.then {a b c : World} (h : Grows a b) (k : Grows b c) : Grows a c := h.trans (k.mono h.size)
theorem grows_grow (w : World) (k : Nat) (os : Array Obj) : Grows w (Sort.grow (w.drewN k) os) :=
  ⟨rfl, rfl, rfl, by simp [Sort.grow, World.drewN], fun i hi => by simp [Sort.grow, World.drewN, Array.getElem?_append, hi]⟩
theorem grows_drewN (w : World) (k : Nat) : Grows w (w.drewN k) := below_drewN (Below.refl _ _) k
/-- grownBy, to and fro. -/
theorem grown_of_grows {w w' : World} (h : Grows w w') (row : Option Nat) : w.grownBy w' row := ⟨h.os, h.tape, h.output, h.size, fun k hk _ => h.block k hk⟩
theorem grown_trans {a b c : World} {row : Option Nat} (h : a.grownBy b row) (k : b.grownBy c row) : a.grownBy c row :=
  ⟨k.os.trans h.os, k.tape.trans h.tape, k.output.trans h.output, Nat.le_trans h.size k.size, fun i hi hr => (k.block i (Nat.lt_of_lt_of_le hi h.size) hr).trans (h.block i hi hr)⟩
theorem grown_refl (w : World) (row : Option Nat) : w.grownBy w row := ⟨rfl, rfl, rfl, Nat.le_refl _, fun _ _ _ => rfl⟩
theorem below_of_grown {w w' : World} {b B : Nat} (h : w.grownBy w' (some b)) (hB : B ≤ b) (hs : B ≤ w.heap.size) : Below B w w' :=
  ⟨h.os, h.tape, h.output, h.size, fun k hk => h.block k (by omega) (by simp; omega)⟩

/-- A string's value out of its bytes. -/
def str (l : List UInt8) : Value := .string ⟨l.toArray⟩
theorem ret_str {a b : ByteArray} (h : a.data.toList = b.data.toList) : Ending.returned (.string a) = .returned (.string b) := by
  have : a = b := by
    cases a; cases b
    simp only at h
    congr 1
    exact Array.ext' h
  rw [this]

end Go.Proofs.YtjiljkiedidmeaaDoor
