/- Digests of byte lists, trees of digests and proofs as plain functions, and what they say of each other. -/
import Derived.Lib.Hide
namespace Go.Proofs.Ytmgkbkpfhpkbcaa

/-- The four lower bytes of a number, most significant first. -/
def word (n : Nat) : List UInt8 := [UInt8.ofNat (n / 16777216), UInt8.ofNat (n / 65536), UInt8.ofNat (n / 256), UInt8.ofNat n]
def stepX (x : Nat) (c : UInt8) : Nat := (48271 * x + c.toNat + 1) % 2147483647
def stepY (y : Nat) (c : UInt8) : Nat := (40692 * y + c.toNat + 1) % 2147483629
def dx (l : List UInt8) : Nat := l.foldl stepX 31
def dy (l : List UInt8) : Nat := l.foldl stepY 37
/-- The digest. -/
def dig (l : List UInt8) : List UInt8 := word (dx l) ++ word (dy l)

theorem stepX_lt (x : Nat) (c : UInt8) : stepX x c < 2147483647 := Nat.mod_lt _ (by decide)
theorem stepY_lt (x : Nat) (c : UInt8) : stepY x c < 2147483629 := Nat.mod_lt _ (by decide)
theorem foldX_lt (l : List UInt8) (x : Nat) (h : x < 2147483647) : l.foldl stepX x < 2147483647 := by
  induction l generalizing x with
  | nil => exact h
  | cons c l ih => exact ih _ (stepX_lt x c)
theorem foldY_lt (l : List UInt8) (x : Nat) (h : x < 2147483629) : l.foldl stepY x < 2147483629 := by
  induction l generalizing x with
  | nil => exact h
  | cons c l ih => exact ih _ (stepY_lt x c)
theorem dx_lt (l : List UInt8) : dx l < 2147483647 := foldX_lt l 31 (by decide)
theorem dy_lt (l : List UInt8) : dy l < 2147483629 := foldY_lt l 37 (by decide)
theorem dig_length (l : List UInt8) : (dig l).length = 8 := rfl
theorem dx_snoc (l : List UInt8) (c : UInt8) : dx (l ++ [c]) = stepX (dx l) c := by unfold dx; rw [List.foldl_append]; rfl
theorem dy_snoc (l : List UInt8) (c : UInt8) : dy (l ++ [c]) = stepY (dy l) c := by unfold dy; rw [List.foldl_append]; rfl

/-! ### Numbers are told apart by their words -/
theorem word_inj {a b : Nat} (ha : a < 4294967296) (hb : b < 4294967296) (h : word a = word b) : a = b := by
  unfold word at h
  simp only [List.cons.injEq, and_true] at h
  obtain ⟨h1, h2, h3, h4⟩ := h
  have e1 := congrArg UInt8.toNat h1
  have e2 := congrArg UInt8.toNat h2
  have e3 := congrArg UInt8.toNat h3
  have e4 := congrArg UInt8.toNat h4
  simp only [UInt8.toNat_ofNat'] at e1 e2 e3 e4
  omega

/-- One byte's difference goes on: no remainder by a prime swallows it. -/
theorem step_gen (p m k a b : Nat) (hg : Nat.Coprime p m) (hb : b < p) (hab : a ≤ b) (he : (m * a + k) % p = (m * b + k) % p) : a = b := by
  have hle : m * a ≤ m * b := Nat.mul_le_mul_left m hab
  have hd : p ∣ m * (b - a) := by
    have e : m * (b - a) = (m * b + k) - (m * a + k) := by rw [Nat.mul_sub]; omega
    rw [e]
    exact Nat.dvd_of_mod_eq_zero (Nat.sub_mod_eq_zero_of_mod_eq he.symm)
  have h1 : p ∣ b - a := hg.dvd_of_dvd_mul_left hd
  have h2 := Nat.eq_zero_of_dvd_of_lt h1 (by omega)
  omega
theorem stepX_inj {x x' : Nat} (c : UInt8) (hx : x < 2147483647) (hx' : x' < 2147483647) (h : stepX x c = stepX x' c) : x = x' := by
  have hg : Nat.Coprime 2147483647 48271 := by decide
  unfold stepX at h
  rw [Nat.add_assoc, Nat.add_assoc] at h
  rcases Nat.le_total x x' with hl | hl
  · exact step_gen _ _ _ _ _ hg hx' hl h
  · exact (step_gen _ _ _ _ _ hg hx hl h.symm).symm
theorem foldX_inj (l : List UInt8) {x x' : Nat} (hx : x < 2147483647) (hx' : x' < 2147483647) (h : l.foldl stepX x = l.foldl stepX x') : x = x' := by
  induction l generalizing x x' with
  | nil => exact h
  | cons c l ih => exact stepX_inj c hx hx' (ih (stepX_lt x c) (stepX_lt x' c) h)
theorem stepX_byte {x : Nat} {c c' : UInt8} (h : stepX x c = stepX x c') : c = c' := by
  unfold stepX at h
  have h1 := c.toNat_lt
  have h2 := c'.toNat_lt
  apply UInt8.toNat_inj.1
  omega
theorem dig_inj_dx {a b : List UInt8} (h : dig a = dig b) : dx a = dx b := by
  unfold dig at h
  have := (List.append_inj h rfl).1
  exact word_inj (Nat.lt_trans (dx_lt a) (by decide)) (Nat.lt_trans (dx_lt b) (by decide)) this
/-- **One byte that is another one makes another digest.** -/
theorem dig_one (p s : List UInt8) (c c' : UInt8) (h : c ≠ c') : dig (p ++ c :: s) ≠ dig (p ++ c' :: s) := by
  intro e
  have e := dig_inj_dx e
  unfold dx at e
  rw [List.foldl_append, List.foldl_append, List.foldl_cons, List.foldl_cons] at e
  exact h (stepX_byte (foldX_inj s (stepX_lt _ _) (stepX_lt _ _) e))

end Go.Proofs.Ytmgkbkpfhpkbcaa
