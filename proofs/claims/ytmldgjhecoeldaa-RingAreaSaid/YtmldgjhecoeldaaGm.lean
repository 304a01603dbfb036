/- What Check, Area2 and Inside answer, in the words of rings. Rings that are turned and moved, rings that begin with another point, made rings, and the theorem of Pick for them. -/
import Derived.Test.YtmldgjhecoeldaaGg
import Derived.Test.YtmldgjhecoeldaaRCk
import Derived.Test.YtmldgjhecoeldaaIns
import Derived.Test.YtmldgjhecoeldaaRRy
import Derived.Test.YtmldgjhecoeldaaMad
namespace Go.Proofs.Ytmldgjhecoeldaa
open Go.RowKit Go.Lib Geo

theorem pt_cap {r : List (Int × Int)} {i : Nat} (hi : i < r.length) : pt (cap1 r) i = pt r i ∧ pt (cap1 r) (i + 1) = pt r (nx r.length i) := by
  have a : ∀ j, pt (cap1 r) j = if j < r.length then pt r j else if j = r.length then pt r 0 else (0, 0) := by
    intro j
    unfold cap1
    show ((r ++ [pt r 0])[j]?).getD (0, 0) = _
    rw [List.getElem?_append]
    by_cases h : j < r.length
    · rw [if_pos h, if_pos h]; rfl
    · rw [if_neg h, if_neg h]
      by_cases h2 : j = r.length
      · rw [if_pos h2, h2, Nat.sub_self]; rfl
      · rw [if_neg h2, List.getElem?_eq_none (by simp; omega)]; rfl
  refine ⟨by rw [a, if_pos hi], ?_⟩
  rw [a]
  unfold nx
  by_cases h : i + 1 = r.length
  · rw [if_neg (by omega), if_pos h, if_pos h]
  · rw [if_pos (by omega), if_neg h]
theorem cap_len (r : List (Int × Int)) : (cap1 r).length = r.length + 1 := by unfold cap1; simp
theorem cap_closed {r : List (Int × Int)} (h : 3 ≤ r.length) : closedP (cap1 r) = true := by
  unfold closedP
  rw [cap_len, Bool.and_eq_true, decide_eq_true_iff, decide_eq_true_iff]
  refine ⟨by omega, ?_⟩
  have h1 := (pt_cap (r := r) (i := 0) (by omega)).1
  have h2 := (pt_cap (r := r) (i := r.length - 1) (by omega)).2
  rw [show r.length - 1 + 1 = r.length by omega] at h2
  rw [h1, show r.length + 1 - 1 = r.length by omega, h2]
  unfold nx; rw [if_pos (by omega)]
theorem mK_cap {r : List (Int × Int)} {i j : Nat} (hi : i < r.length) (hj : j < r.length) : mK (cap1 r) i j = mt (pt r i) (pt r (nx r.length i)) (pt r j) (pt r (nx r.length j)) := by
  unfold mK mt
  rw [(pt_cap hi).1, (pt_cap hi).2, (pt_cap hj).1, (pt_cap hj).2]
theorem want_cap {r : List (Int × Int)} (h : 3 ≤ r.length) (i j : Nat) : wantP (cap1 r) i j = if j = i + 1 ∨ (i = 0 ∧ j + 1 = r.length) then 1 else 0 := by
  unfold wantP
  rw [cap_closed h, cap_len]
  by_cases c : j = i + 1 ∨ i = 0 ∧ j + 1 = r.length
  · rw [if_pos c, if_pos (by rcases c with c | c; exact .inl c; exact .inr ⟨rfl, c.1, by omega⟩)]
  · rw [if_neg c, if_neg (by rintro (d | ⟨-, d, e⟩) <;> omega)]
theorem anyTo_false {f : Nat → Bool} {n : Nat} : anyTo f n = false ↔ ∀ k, k < n → f k = false := by
  constructor
  · intro h k hk
    cases e : f k
    · rfl
    · have := anyTo_yes e hk; rw [h] at this; cases this
  · intro h
    cases e : anyTo f n
    · rfl
    · obtain ⟨k, hk, hf⟩ := anyTo_iff.1 e; rw [h k hk] at hf; cases hf
theorem simple_vd {r : List (Int × Int)} (h : 3 ≤ r.length) : simpleR (cap1 r) = true ↔ Vd r.length (pt r) := by
  unfold simpleR
  rw [cap_len, Nat.add_sub_cancel, Bool.not_eq_true', anyTo_false]
  constructor
  · intro H
    refine ⟨fun j hj e => ?_, fun i j hij hj => ?_⟩
    · have := H j hj
      unfold badS2 at this
      rw [Bool.or_eq_false_iff, decide_eq_false_iff_not, (pt_cap hj).1, (pt_cap hj).2] at this
      exact this.1 e
    · have := H j hj
      unfold badS2 at this
      rw [Bool.or_eq_false_iff, anyTo_false] at this
      have := this.2 i hij
      unfold badM2 at this
      rw [decide_eq_false_iff_not, Decidable.not_not, mK_cap (by omega) hj, want_cap h] at this
      exact this
  · intro V j hj
    unfold badS2
    rw [Bool.or_eq_false_iff, decide_eq_false_iff_not, (pt_cap hj).1, (pt_cap hj).2, anyTo_false]
    refine ⟨V.ne j hj, fun i hi => ?_⟩
    unfold badM2
    rw [decide_eq_false_iff_not, Decidable.not_not, mK_cap (by omega) hj, want_cap h]
    exact V.me i j hi hj
theorem all_cap {r : List (Int × Int)} (h : 0 < r.length) : (cap1 r).all rtP = r.all rtP := by
  unfold cap1
  rw [List.all_append]
  cases e : r.all rtP
  · rfl
  · simp only [List.all_cons, List.all_nil, Bool.and_true, Bool.true_and]
    exact rtp_at e h
theorem rchk_ok {r : List (Int × Int)} : rchkP r = 0 ↔ (3 ≤ r.length ∧ r.length < 40) ∧ r.all rtP = true ∧ Vd r.length (pt r) := by
  by_cases h : r.length < 3 ∨ 40 ≤ r.length
  · unfold rchkP
    rw [if_pos h]
    constructor
    · intro e; omega
    · rintro ⟨h1, -⟩; omega
  · unfold rchkP
    rw [if_neg h, chk_same]
    have h3 : 3 ≤ r.length := by omega
    unfold chkP
    rw [cap_len, if_neg (by omega), all_cap (by omega)]
    cases e : r.all rtP
    · simp only [if_true]
      constructor
      · intro e; omega
      · rintro ⟨-, e, -⟩; cases e
    · rw [if_neg (by simp), ← simple_vd h3]
      cases e2 : simpleR (cap1 r)
      · simp
      · simp; omega

/- Inside. -/
theorem rtp_inn {r : List (Int × Int)} (h : r.all rtP = true) {k : Nat} (hk : k < r.length) : Inn (pt r k) := rt_in (rtp_at h hk)
theorem side_far {a0 a1 b0 b1 p0 p1 : Int} (h : ¬ In p0 p1) : sideOf a0 a1 b0 b1 p0 p1 = 0 := by
  unfold sideOf
  rw [if_neg]
  rintro ⟨-, -, g⟩
  exact h g
theorem ray_far {a0 a1 b0 b1 p0 p1 : Int} (h : ¬ In p0 p1) : rayOf a0 a1 b0 b1 p0 p1 = 0 := by
  rw [← rray_same]
  unfold rrayOf
  rw [side_far h, side_far h, if_neg (by omega), if_neg (by omega)]
theorem sign_lt (x : Int) : x.sign < 0 ↔ x < 0 := by
  rcases Int.lt_trichotomy x 0 with h | h | h
  · rw [Int.sign_eq_neg_one_of_neg h]; omega
  · subst h; simp
  · rw [Int.sign_eq_one_of_pos h]; omega
theorem ray_in {a0 a1 b0 b1 p0 p1 : Int} (ha : In a0 a1) (hb : In b0 b1) (hp : In p0 p1) : rayOf a0 a1 b0 b1 p0 p1 = ry a0 a1 b0 b1 p0 p1 := by
  rw [← rray_same]
  unfold rrayOf ry
  rw [side_in ha hb hp, side_in hb ha hp]
  simp only [sign_lt]
theorem on_far {a0 a1 b0 b1 p0 p1 : Int} (h : ¬ In p0 p1) : onOf a0 a1 b0 b1 p0 p1 = false := by
  cases e : onOf a0 a1 b0 b1 p0 p1
  · rfl
  · unfold onOf at e
    simp only [Bool.and_eq_true] at e
    exact absurd e.2.2.1 h
theorem insV_far {r : List (Int × Int)} {p : Int × Int} (h : ¬ Inn p) : insV r p = -1 := by
  unfold insV
  rw [if_neg, if_pos]
  · exact sumT_zero fun k _ => ray_far h
  · have e : anyTo (onK r p) r.length = false := anyTo_false.2 fun k _ => on_far h
    rw [e]; simp
theorem onK_off {r : List (Int × Int)} (h : r.all rtP = true) {p : Int × Int} (hp : Inn p) : anyTo (onK r p) r.length = false ↔ Off (pt r) r.length p := by
  rw [anyTo_false]
  constructor
  · intro H k hk e
    have := H k hk
    unfold onK at this
    rw [on_in (rtp_inn h hk) (rtp_inn h (nx_lt hk)) hp] at this
    rw [on_mem.2 e] at this
    cases this
  · intro H k hk
    unfold onK
    rw [on_in (rtp_inn h hk) (rtp_inn h (nx_lt hk)) hp]
    cases e : on (pt r k).1 (pt r k).2 (pt r (nx r.length k)).1 (pt r (nx r.length k)).2 p.1 p.2
    · rfl
    · exact absurd (on_mem.1 e) (H k hk)
theorem rayK_rays {r : List (Int × Int)} (h : r.all rtP = true) {p : Int × Int} (hp : Inn p) : sumT (rayK r p) r.length = rays (pt r) r.length p :=
  sumT_congr fun _ hk => ray_in (rtp_inn h hk) (rtp_inn h (nx_lt hk)) hp
open Classical in
theorem insV_in {r : List (Int × Int)} (h : r.all rtP = true) {p : Int × Int} (hp : Inn p) : insV r p = if Off (pt r) r.length p then (if rays (pt r) r.length p = 0 then -1 else 1) else 0 := by
  unfold insV
  rw [rayK_rays h hp]
  by_cases c : Off (pt r) r.length p
  · rw [if_pos c, if_neg (by rw [(onK_off h hp).2 c]; simp)]
  · rw [if_neg c, if_pos]
    cases e : anyTo (onK r p) r.length
    · exact absurd ((onK_off h hp).1 e) c
    · rfl
/-- The box plays no part. -/
theorem ins_box {r : List (Int × Int)} {p : Int × Int} (h1 : -9223372036854775808 ≤ p.1 ∧ p.1 ≤ 9223372036854775807) (h2 : -9223372036854775808 ≤ p.2 ∧ p.2 ≤ 9223372036854775807) : insC r p = insP r p := by
  unfold insC
  by_cases hn : nearP r [p] = false
  · rw [if_pos hn]
    unfold insP
    by_cases hc : rchkP r = 0
    · rw [if_neg (by rw [hc]; simp)]
      obtain ⟨hl, ha, -⟩ := rchk_ok.1 hc
      by_cases hp : Inn p
      · have hb : (∀ k, k < r.length → p.1 < (pt r k).1) ∨ (∀ k, k < r.length → (pt r k).1 < p.1) ∨ (∀ k, k < r.length → p.2 < (pt r k).2) ∨ (∀ k, k < r.length → (pt r k).2 < p.2) := by
          have h3 : nearOf (bxo r).1.1 (bxo r).1.2 (bxo r).2.1 (bxo r).2.2 (bxo [p]).1.1 (bxo [p]).1.2 (bxo [p]).2.1 (bxo [p]).2.2 = false := hn
          have e : bxo [p] = ((p.1, p.2), (p.1, p.2)) := by
            unfold bxo lo hi
            simp
            omega
          have e2 : bxo r = ((lo Prod.fst r r.length, lo Prod.snd r r.length), (hi Prod.fst r r.length, hi Prod.snd r r.length)) := by
            unfold bxo; rw [if_neg (by omega)]
          rw [e, e2] at h3
          simp only at h3
          rcases Int.lt_or_le p.1 (lo Prod.fst r r.length) with c1 | c1
          · exact .inl fun k hk => by have := lo_le (sel := Prod.fst) (ps := r) (Nat.le_refl _) hk; omega
          rcases Int.lt_or_le (hi Prod.fst r r.length) p.1 with c2 | c2
          · exact .inr (.inl fun k hk => by have := hi_ge (sel := Prod.fst) (ps := r) (Nat.le_refl _) hk; omega)
          rcases Int.lt_or_le p.2 (lo Prod.snd r r.length) with c3 | c3
          · exact .inr (.inr (.inl fun k hk => by have := lo_le (sel := Prod.snd) (ps := r) (Nat.le_refl _) hk; omega))
          rcases Int.lt_or_le (hi Prod.snd r r.length) p.2 with c4 | c4
          · exact .inr (.inr (.inr fun k hk => by have := hi_ge (sel := Prod.snd) (ps := r) (Nat.le_refl _) hk; omega))
          rw [near_yes c1 c2 c3 c4] at h3
          cases h3
        have hb2 := beside hb
        rw [insV_in ha hp, if_pos hb2.1, if_pos hb2.2]
      · rw [insV_far hp]
    · rw [if_pos hc]
  · rw [if_neg hn]
end Go.Proofs.Ytmldgjhecoeldaa

namespace Go.Proofs.Ytmldgjhecoeldaa
open Go.RowKit Go.Lib Geo

theorem rays_congr {P Q : Nat → Int × Int} {n : Nat} {p : Int × Int} (h : ∀ k, k < n → P k = Q k) : rays P n p = rays Q n p :=
  sumT_congr fun k hk => by rw [h k hk, h _ (nx_lt hk)]
theorem off_congr {P Q : Nat → Int × Int} {n : Nat} {p : Int × Int} (h : ∀ k, k < n → P k = Q k) : Off P n p ↔ Off Q n p := by
  constructor
  · intro H k hk; have := H k hk; rw [h k hk, h _ (nx_lt hk)] at this; exact this
  · intro H k hk; rw [h k hk, h _ (nx_lt hk)]; exact H k hk
theorem area_congr {P Q : Nat → Int × Int} {n : Nat} (h : ∀ k, k < n → P k = Q k) : area P n = area Q n :=
  sumT_congr fun k hk => by rw [h k hk, h _ (nx_lt hk)]
theorem vd_congr {P Q : Nat → Int × Int} {n : Nat} (h : ∀ k, k < n → P k = Q k) (v : Vd n P) : Vd n Q :=
  ⟨fun j hj => by rw [← h j hj, ← h _ (nx_lt hj)]; exact v.ne j hj, fun i j hij hj => by rw [← h i (by omega), ← h _ (nx_lt (by omega)), ← h j hj, ← h _ (nx_lt hj)]; exact v.me i j hij hj⟩

/-- Turned m times. -/
def tqn : Nat → Int × Int → Int × Int
  | 0, p => p
  | m + 1, p => tq (tqn m p)
theorem tqn_rq {m : Nat} (hm : m ≤ 3) (p : Int × Int) : tqn m p = rq m p.1 p.2 := by
  rcases four hm with rfl | rfl | rfl | rfl <;> simp [tqn, rq, tq]
theorem off_tqn {P : Nat → Int × Int} {n : Nat} {p : Int × Int} (m : Nat) (h : Off P n p) : Off (fun k => tqn m (P k)) n (tqn m p) := by
  induction m with
  | zero => exact h
  | succ m ih => exact off_tq ih
theorem rays_tqn {P : Nat → Int × Int} {n : Nat} {p : Int × Int} (m : Nat) (h : Off P n p) : rays (fun k => tqn m (P k)) n (tqn m p) = rays P n p := by
  induction m with
  | zero => rfl
  | succ m ih => exact (rays_tq (off_tqn m h)).trans ih
theorem area_tqn {P : Nat → Int × Int} {n : Nat} (m : Nat) : area (fun k => tqn m (P k)) n = area P n := by
  induction m with
  | zero => rfl
  | succ m ih => exact area_tq.trans ih
/-- Turned and moved. -/
def mvt (m : Nat) (u v : Int) (p : Int × Int) : Int × Int := tv u v (tqn m p)
theorem mvt_tm {m : Nat} (hm : m ≤ 3) (u v : Int) (p : Int × Int) : Tm m u v p.1 p.2 (mvt m u v p).1 (mvt m u v p).2 := by
  unfold mvt tv
  rw [tqn_rq hm]
  exact ⟨rfl, rfl⟩
theorem mt_mvt {m : Nat} (hm : m ≤ 3) {u v : Int} {a b c d : Int × Int} (ha : Inn a) (hb : Inn b) (hc : Inn c) (hd : Inn d) (ha' : Inn (mvt m u v a)) (hb' : Inn (mvt m u v b)) (hc' : Inn (mvt m u v c)) (hd' : Inn (mvt m u v d)) :
    mt (mvt m u v a) (mvt m u v b) (mvt m u v c) (mvt m u v d) = mt a b c d := by
  unfold mt
  rw [Geo.meet_in ha hb hc hd, Geo.meet_in ha' hb' hc' hd']
  exact meet_tm hm (mvt_tm hm u v a) (mvt_tm hm u v b) (mvt_tm hm u v c) (mvt_tm hm u v d)
theorem mvt_inj {m : Nat} (hm : m ≤ 3) {u v : Int} {a b : Int × Int} : mvt m u v a = mvt m u v b ↔ a = b := by
  rw [Prod.ext_iff, Prod.ext_iff]
  exact eq_tm hm (mvt_tm hm u v a) (mvt_tm hm u v b)
theorem vd_mvt {m : Nat} (hm : m ≤ 3) {u v : Int} {P : Nat → Int × Int} {n : Nat} (hI : ∀ k, k < n → Inn (P k)) (hI' : ∀ k, k < n → Inn (mvt m u v (P k))) : Vd n (fun k => mvt m u v (P k)) ↔ Vd n P := by
  constructor
  · intro V
    refine ⟨fun j hj e => V.ne j hj (by simp only [e]), fun i j hij hj => ?_⟩
    have := V.me i j hij hj
    rw [mt_mvt hm (hI _ (by omega)) (hI _ (nx_lt (by omega))) (hI _ hj) (hI _ (nx_lt hj)) (hI' _ (by omega)) (hI' _ (nx_lt (by omega))) (hI' _ hj) (hI' _ (nx_lt hj))] at this
    exact this
  · intro V
    refine ⟨fun j hj e => V.ne j hj ((mvt_inj hm).1 e), fun i j hij hj => ?_⟩
    rw [mt_mvt hm (hI _ (by omega)) (hI _ (nx_lt (by omega))) (hI _ hj) (hI _ (nx_lt hj)) (hI' _ (by omega)) (hI' _ (nx_lt (by omega))) (hI' _ hj) (hI' _ (nx_lt hj))]
    exact V.me i j hij hj
theorem off_mvt {m : Nat} (hm : m ≤ 3) {u v : Int} {P : Nat → Int × Int} {n : Nat} {p : Int × Int} : Off (fun k => mvt m u v (P k)) n (mvt m u v p) ↔ Off P n p := by
  constructor
  · intro H k hk e
    refine H k hk ?_
    have h1 := mvt_tm hm u v (P k)
    have h2 := mvt_tm hm u v (P (nx n k))
    have h3 := mvt_tm hm u v p
    exact ⟨(cr_tm hm h1 h2 h3).trans e.1, (bx_tm hm h1 h2 h3).2 e.2⟩
  · intro H k hk e
    refine H k hk ?_
    have h1 := mvt_tm hm u v (P k)
    have h2 := mvt_tm hm u v (P (nx n k))
    have h3 := mvt_tm hm u v p
    exact ⟨(cr_tm hm h1 h2 h3).symm.trans e.1, (bx_tm hm h1 h2 h3).1 e.2⟩
theorem rays_mvt {m : Nat} {u v : Int} {P : Nat → Int × Int} {n : Nat} {p : Int × Int} (h : Off P n p) : rays (fun k => mvt m u v (P k)) n (mvt m u v p) = rays P n p :=
  (rays_tv (fun k => tqn m (P k)) n (tqn m p) u v).trans (rays_tqn m h)

open Classical in
theorem rchk_val {r : List (Int × Int)} (h : r.all rtP = true) : rchkP r = if r.length < 3 ∨ 40 ≤ r.length then 2 else if Vd r.length (pt r) then 0 else 11 := by
  by_cases c : r.length < 3 ∨ 40 ≤ r.length
  · unfold rchkP; rw [if_pos c, if_pos c]
  · rw [if_neg c]
    by_cases d : Vd r.length (pt r)
    · rw [if_pos d]; exact rchk_ok.2 ⟨by omega, h, d⟩
    · rw [if_neg d]
      unfold rchkP
      rw [if_neg c, chk_same]
      unfold chkP
      rw [cap_len, if_neg (by omega), all_cap (by omega), h, if_neg (by simp), if_pos]
      cases e : simpleR (cap1 r)
      · rfl
      · exact absurd ((simple_vd (by omega)).1 e) d
/-- A ring that is turned and moved. -/
theorem check_mvt {m : Nat} (hm : m ≤ 3) {u v : Int} {r r' : List (Int × Int)} (hl : r'.length = r.length) (hp : ∀ k, k < r.length → pt r' k = mvt m u v (pt r k)) (h : r.all rtP = true) (h' : r'.all rtP = true) : rchkP r' = rchkP r := by
  have e : Vd r'.length (pt r') ↔ Vd r.length (pt r) := by
    rw [hl]
    have hI : ∀ k, k < r.length → Inn (pt r k) := fun k hk => rtp_inn h hk
    have hI' : ∀ k, k < r.length → Inn (mvt m u v (pt r k)) := fun k hk => by rw [← hp k hk]; exact rtp_inn h' (by omega)
    exact ⟨fun V => (vd_mvt hm hI hI').1 (vd_congr hp V), fun V => vd_congr (fun k hk => (hp k hk).symm) ((vd_mvt hm hI hI').2 V)⟩
  rw [rchk_val h, rchk_val h', hl]
  by_cases c : r.length < 3 ∨ 40 ≤ r.length
  · rw [if_pos c, if_pos c]
  · rw [if_neg c, if_neg c]
    by_cases d : Vd r.length (pt r)
    · rw [if_pos d, if_pos (by rw [← hl]; exact e.2 d)]
    · rw [if_neg d, if_neg (fun x => d (e.1 (by rw [hl]; exact x)))]
theorem inside_mvt {m : Nat} (hm : m ≤ 3) {u v : Int} {r r' : List (Int × Int)} {p p' : Int × Int} (hl : r'.length = r.length) (hp : ∀ k, k < r.length → pt r' k = mvt m u v (pt r k)) (hpp : p' = mvt m u v p) (h : r.all rtP = true) (h' : r'.all rtP = true) (hi : Inn p) (hi' : Inn p') : insP r' p' = insP r p := by
  unfold insP
  rw [check_mvt hm hl hp h h', insV_in h hi, insV_in h' hi', hl]
  have e1 : Off (pt r') r.length p' ↔ Off (pt r) r.length p := by
    rw [off_congr hp, hpp]; exact off_mvt hm
  by_cases c : Off (pt r) r.length p
  · rw [if_pos c, if_pos (e1.2 c), rays_congr hp, hpp, rays_mvt c]
  · rw [if_neg c, if_neg (fun x => c (e1.1 x))]

/- Rings that begin with another point, and in the other direction. -/
theorem pt_turned {r : List (Int × Int)} {k : Nat} (hk : k ≤ r.length) {i : Nat} (hi : i < r.length) : pt (r.drop k ++ r.take k) i = rtk r.length (pt r) k i := by
  rw [rtk_at hk hi]
  unfold pt
  rw [List.getElem?_append, List.length_drop]
  by_cases c : i + k < r.length
  · rw [if_pos (by omega), if_pos c, List.getElem?_drop, Nat.add_comm]
  · rw [if_neg (by omega), if_neg c, List.getElem?_take, if_pos (by omega)]
    congr 2; omega
theorem len_turned {r : List (Int × Int)} {k : Nat} (hk : k ≤ r.length) : (r.drop k ++ r.take k).length = r.length := by
  rw [List.length_append, List.length_drop, List.length_take]; omega
theorem all_turned {r : List (Int × Int)} (k : Nat) (h : r.all rtP = true) : (r.drop k ++ r.take k).all rtP = true := by
  rw [List.all_eq_true] at *
  intro p hp
  rcases List.mem_append.1 hp with hp | hp
  · exact h p (List.mem_of_mem_drop hp)
  · exact h p (List.mem_of_mem_take hp)
theorem inside_turned {r : List (Int × Int)} {k : Nat} (hk : k ≤ r.length) (h : rchkP r = 0) {p : Int × Int} (hp : Inn p) : insP (r.drop k ++ r.take k) p = insP r p := by
  obtain ⟨hl, ha, hv⟩ := rchk_ok.1 h
  have hI : ∀ i, i < r.length → Inn (pt r i) := fun i hi => rtp_inn ha hi
  have e := len_turned hk
  have hc : ∀ i, i < r.length → pt (r.drop k ++ r.take k) i = rtk r.length (pt r) k i := fun i hi => pt_turned hk hi
  have h2 : rchkP (r.drop k ++ r.take k) = 0 := rchk_ok.2 ⟨by rw [e]; exact hl, all_turned k ha, by rw [e]; exact vd_congr (fun i hi => (hc i hi).symm) (vd_rtk hI hv k)⟩
  unfold insP
  rw [h, h2, if_neg (by simp), if_neg (by simp), insV_in ha hp, insV_in (all_turned k ha) hp, e, rays_congr hc, rays_rtk]
  have e1 : Off (pt (r.drop k ++ r.take k)) r.length p ↔ Off (pt r) r.length p := (off_congr hc).trans (off_rtk k)
  by_cases c : Off (pt r) r.length p
  · rw [if_pos c, if_pos (e1.2 c)]
  · rw [if_neg c, if_neg (fun x => c (e1.1 x))]
theorem pt_back {r : List (Int × Int)} {i : Nat} (hi : i < r.length) : pt r.reverse i = bk r.length (pt r) i := by
  unfold pt bk; rw [List.getElem?_reverse hi]
theorem inside_back {r : List (Int × Int)} (h : rchkP r = 0) {p : Int × Int} (hp : Inn p) : insP r.reverse p = insP r p := by
  obtain ⟨hl, ha, hv⟩ := rchk_ok.1 h
  have hI : ∀ i, i < r.length → Inn (pt r i) := fun i hi => rtp_inn ha hi
  have ha2 : r.reverse.all rtP = true := by rw [List.all_reverse]; exact ha
  have e : r.reverse.length = r.length := List.length_reverse
  have hc : ∀ i, i < r.length → pt r.reverse i = bk r.length (pt r) i := fun i hi => pt_back hi
  have h2 : rchkP r.reverse = 0 := rchk_ok.2 ⟨by rw [e]; exact hl, ha2, by rw [e]; exact vd_congr (fun i hi => (hc i hi).symm) (vd_bk hI hv)⟩
  unfold insP
  rw [h, h2, if_neg (by simp), if_neg (by simp), insV_in ha hp, insV_in ha2 hp, e, rays_congr hc, rays_bk]
  have e1 : Off (pt r.reverse) r.length p ↔ Off (pt r) r.length p := (off_congr hc).trans off_bk
  by_cases c : Off (pt r) r.length p
  · rw [if_pos c, if_pos (e1.2 c)]
    by_cases d : rays (pt r) r.length p = 0
    · rw [if_pos d, if_pos (by omega)]
    · rw [if_neg d, if_neg (by omega)]
  · rw [if_neg c, if_neg (fun x => c (e1.1 x))]

/- Areas without an overflow. -/
def Bdd (B : Int) (r : List (Int × Int)) : Prop := ∀ k, k < r.length → (-B ≤ (pt r k).1 ∧ (pt r k).1 ≤ B) ∧ (-B ≤ (pt r k).2 ∧ (pt r k).2 ≤ B)
theorem mul_abs {a b B : Int} (ha : -B ≤ a ∧ a ≤ B) (hb : -B ≤ b ∧ b ≤ B) (hB : 0 ≤ B) : -(B * B) ≤ a * b ∧ a * b ≤ B * B := by
  have h : (a * b).natAbs ≤ B.natAbs * B.natAbs := by rw [Int.natAbs_mul]; exact Nat.mul_le_mul (by omega) (by omega)
  have e : ((B.natAbs * B.natAbs : Nat) : Int) = B * B := by rw [Int.natCast_mul, Int.natAbs_of_nonneg hB]
  omega
theorem area_plain {r : List (Int × Int)} (h : Bdd 2000 r) (hl : r.length ≤ 1000) : areaP r = area (pt r) r.length := by
  have key : ∀ n : Nat, n ≤ r.length → areaTo r n = sumT (fun k => cx (pt r k).1 (pt r k).2 (pt r (nx r.length k)).1 (pt r (nx r.length k)).2) n ∧ -(8000000 * (n : Int)) ≤ areaTo r n ∧ areaTo r n ≤ 8000000 * (n : Int) := by
    intro n
    induction n with
    | zero => intro _; exact ⟨rfl, by simp [areaTo], by simp [areaTo]⟩
    | succ n ih =>
      intro hn
      obtain ⟨i1, i2, i3⟩ := ih (by omega)
      have h1 := h n (by omega)
      have h2 := h _ (nx_lt (show n < r.length by omega))
      have m1 := mul_abs h1.1 h2.2 (by omega)
      have m2 := mul_abs h1.2 h2.1 (by omega)
      rw [areaTo, sumT, ← i1]
      unfold areaS crW cx
      generalize (pt r n).1 * (pt r (nx r.length n)).2 = X at *
      generalize (pt r n).2 * (pt r (nx r.length n)).1 = Y at *
      have e1 : wrap64 X = X := IntWalk.wrap64_in _ (by omega)
      have e2 : wrap64 Y = Y := IntWalk.wrap64_in _ (by omega)
      have e3 : wrap64 (X - Y) = X - Y := IntWalk.wrap64_in _ (by omega)
      have e4 : wrap64 (areaTo r n + (X - Y)) = areaTo r n + (X - Y) := IntWalk.wrap64_in _ (by omega)
      rw [e1, e2, e3, e4]
      exact ⟨rfl, by omega, by omega⟩
  exact (key r.length (Nat.le_refl _)).1

/- Made rings. -/
structure MadeM (r : List (Int × Int)) (m t : Nat) (X L H : Nat → Int) : Prop where
  M : Mono m X L H
  m5 : m ≤ 5
  t3 : t ≤ 3
  b : ∀ k, k < m → (-4 ≤ X k ∧ X k ≤ 23) ∧ (-4 ≤ L k ∧ L k ≤ 11) ∧ (-4 ≤ H k ∧ H k ≤ 11)
  len : r.length = 2 * m
  pts : ∀ i, i < 2 * m → pt r i = tqn t (mp m X L H i)
theorem MadeR.m {r : List (Int × Int)} (h : MadeR r) : ∃ m t X L H, MadeM r m t X L H := by
  obtain ⟨m, t, X, L, H, h1, h2, h3, h4, h5, h6⟩ := h
  exact ⟨m, t, X, L, H, h1, h2, h3, h4, h5, fun i hi => by rw [h6 i hi, tqn_rq h3]⟩
theorem tqn_bd {t : Nat} (ht : t ≤ 3) {p : Int × Int} {B : Int} (h : (-B ≤ p.1 ∧ p.1 ≤ B) ∧ (-B ≤ p.2 ∧ p.2 ≤ B)) : (-B ≤ (tqn t p).1 ∧ (tqn t p).1 ≤ B) ∧ (-B ≤ (tqn t p).2 ∧ (tqn t p).2 ≤ B) := by
  rw [tqn_rq ht]; exact rq_bd ht h.1 h.2
section
variable {r : List (Int × Int)} {m t : Nat} {X L H : Nat → Int}
theorem MadeM.base (h : MadeM r m t X L H) {i : Nat} (hi : i < 2 * m) : (-23 ≤ (mp m X L H i).1 ∧ (mp m X L H i).1 ≤ 23) ∧ (-23 ≤ (mp m X L H i).2 ∧ (mp m X L H i).2 ≤ 23) := by
  unfold mp
  split
  · have := h.b i (by assumption); simp only; omega
  · have := h.b (2 * m - 1 - i) (by omega); simp only; omega
theorem MadeM.bdd (h : MadeM r m t X L H) : Bdd 23 r := by
  intro k hk
  rw [h.len] at hk
  rw [h.pts k hk]
  exact tqn_bd h.t3 (h.base hk)
theorem all_of_bdd {r : List (Int × Int)} {B : Int} (hB : B ≤ 16384) (h : Bdd B r) : r.all rtP = true := by
  rw [List.all_eq_true]
  intro p hp
  obtain ⟨i, hi, e⟩ := List.getElem_of_mem hp
  have := h i hi
  have e2 : pt r i = p := by unfold pt; rw [List.getElem?_eq_getElem hi, e]; rfl
  rw [e2] at this
  unfold rtP
  rw [inl_iff]
  omega
theorem MadeM.all (h : MadeM r m t X L H) : r.all rtP = true := all_of_bdd (by omega) h.bdd
theorem in_of {p : Int × Int} {B : Int} (hB : B ≤ 16384) (h : (-B ≤ p.1 ∧ p.1 ≤ B) ∧ (-B ≤ p.2 ∧ p.2 ≤ B)) : Inn p := by unfold Inn; rw [in_iff]; omega
theorem MadeM.vd0 (h : MadeM r m t X L H) : Vd (2 * m) (mp m X L H) := h.M.valid fun k hk => by
  have := h.b k hk
  rw [in_iff, in_iff]
  omega
theorem tv_zero (p : Int × Int) : tv 0 0 p = p := by unfold tv; simp
theorem MadeM.ok (h : MadeM r m t X L H) : rchkP r = 0 := by
  have h2 := h.M.two
  have h5 := h.m5
  have hl := h.len
  have e : ∀ i, i < 2 * m → mvt t 0 0 (mp m X L H i) = pt r i := fun i hi => by rw [h.pts i hi]; exact tv_zero _
  refine rchk_ok.2 ⟨by omega, h.all, ?_⟩
  rw [hl]
  refine vd_congr e ((vd_mvt h.t3 (fun k hk => in_of (by omega) (h.base hk)) (fun k hk => ?_)).2 h.vd0)
  rw [e k hk]
  exact rtp_inn h.all (by omega)
theorem MadeM.area (h : MadeM r m t X L H) : area (pt r) r.length = area (mp m X L H) (2 * m) := by
  rw [h.len, area_congr h.pts, area_tqn]
/-- Turned back. -/
def ub (t : Nat) : Nat := (4 - t) % 4
theorem tqn_ub {t : Nat} (ht : t ≤ 3) (p : Int × Int) : tqn t (tqn (ub t) p) = p := by
  rcases four ht with rfl | rfl | rfl | rfl <;> simp [tqn, tq, ub]
theorem off_pts (h : MadeM r m t X L H) (p : Int × Int) : Off (pt r) r.length (tqn t p) ↔ Off (mp m X L H) (2 * m) p := by
  rw [h.len, off_congr (fun i hi => (h.pts i hi).trans (tv_zero _).symm)]
  have := off_mvt (P := mp m X L H) (n := 2 * m) (p := p) h.t3 (u := 0) (v := 0)
  unfold mvt at this
  rw [tv_zero] at this
  exact this
theorem rays_pts (h : MadeM r m t X L H) {p : Int × Int} (hO : Off (mp m X L H) (2 * m) p) : rays (pt r) r.length (tqn t p) = rays (mp m X L H) (2 * m) p := by
  rw [h.len, rays_congr h.pts, rays_tqn t hO]
theorem MadeM.rays (h : MadeM r m t X L H) {p : Int × Int} (hO : Off (pt r) r.length p) : rays (pt r) r.length p = 0 ∨ rays (pt r) r.length p = -1 := by
  rw [← tqn_ub h.t3 p] at hO ⊢
  have h1 := (off_pts h _).1 hO
  rw [rays_pts h h1, rays_up h1]
  exact h.M.rays_of _
theorem wt_pts (h : MadeM r m t X L H) (p : Int × Int) : wt (pt r) r.length (tqn t p) = wt (mp m X L H) (2 * m) p := by
  unfold wt
  by_cases c : Off (mp m X L H) (2 * m) p
  · rw [if_pos c, if_pos ((off_pts h p).2 c), rays_pts h c]
  · rw [if_neg c, if_neg (fun x => c ((off_pts h p).1 x))]
end

/- Sums over a square. -/
theorem sumT_swap (g : Nat → Nat → Int) (a : Nat) : ∀ b, sumT (fun i => sumT (g i) b) a = sumT (fun j => sumT (fun i => g i j) a) b := by
  intro b
  induction b with
  | zero => exact sumT_zero fun _ _ => rfl
  | succ b ih => rw [sumT, ← ih, ← sumT_add]; rfl
/-- The sum over all points with coordinates from -B to B. -/
def sq (B : Nat) (f : Int × Int → Int) : Int := sumI (fun x => sumI (fun y => f (x, y)) (-B) (2 * B + 1)) (-B) (2 * B + 1)
theorem sumI_neg (g : Int → Int) (B : Nat) : sumI (fun y => g (-y)) (-B) (2 * B + 1) = sumI g (-B) (2 * B + 1) := by
  unfold sumI
  rw [← sumT_flip]
  refine sumT_congr fun k hk => ?_
  show g (-(-(B : Int) + ((2 * B + 1 - 1 - k : Nat) : Int))) = g (-(B : Int) + k)
  congr 1; omega
theorem sq_tq (B : Nat) (f : Int × Int → Int) : sq B (fun p => f (tq p)) = sq B f := by
  have h : sq B (fun p => f (tq p)) = sumI (fun y => sumI (fun x => f (-y, x)) (-B) (2 * B + 1)) (-B) (2 * B + 1) := sumT_swap (fun i j => f (-(-(B : Int) + j), -(B : Int) + i)) (2 * B + 1) (2 * B + 1)
  rw [h]
  exact sumI_neg (fun x => sumI (fun y => f (x, y)) (-B) (2 * B + 1)) B
theorem sq_tqn (B m : Nat) (f : Int × Int → Int) : sq B (fun p => f (tqn m p)) = sq B f := by
  induction m with
  | zero => rfl
  | succ m ih => rw [← ih]; exact sq_tq B (fun p => f (tqn m p)) ▸ (by
      have : ∀ p, tqn (m + 1) p = tqn m (tq p) := by
        intro p
        clear ih
        induction m with
        | zero => rfl
        | succ m ih => show tq (tqn (m + 1) p) = tq (tqn m (tq p)); rw [ih]
      simp only [this])
/-- The theorem of Pick for made rings. -/
theorem MadeM.pick {r : List (Int × Int)} {m t : Nat} {X L H : Nat → Int} (h : MadeM r m t X L H) : sq 64 (wt (pt r) r.length) = Go.Proofs.Ytmldgjhecoeldaa.area (pt r) r.length + 2 := by
  have h2 := h.M.two
  rw [h.area, ← sq_tqn 64 t]
  have e : (fun p => wt (pt r) r.length (tqn t p)) = wt (mp m X L H) (2 * m) := funext fun p => wt_pts h p
  rw [e]
  exact h.M.pick (B := 64) (fun k hk => by have := h.b k hk; omega) (by have h0 := h.b 0 (by omega); have h1 := h.b (m - 1) (by omega); omega)
end Go.Proofs.Ytmldgjhecoeldaa
