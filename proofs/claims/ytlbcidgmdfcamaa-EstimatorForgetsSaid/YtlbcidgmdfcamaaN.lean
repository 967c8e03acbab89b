/- What holds of runs of samples. -/
import Derived.Test.YtlbcidgmdfcamaaM
namespace Go.Proofs.Ytlbcidgmdfcamaa
/-- What a deviation becomes when the samples are all equal. -/
def dec : Nat → Int → Int
  | 0, v => v
  | k + 1, v => dec k v - dec k v / 4
def itE (t : Int) : Nat → Est
  | 0 => z4
  | k + 1 => nxt (itE t k) t
def lastL (t : Int) : Nat → Int
  | 0 => 1099511627776
  | k + 1 => tmo (itE t (k + 1))
theorem dec_bd {v : Int} (h : 0 ≤ v) : ∀ k, 0 ≤ dec k v ∧ dec k v ≤ v
  | 0 => ⟨h, Int.le_refl _⟩
  | k + 1 => by
    have := dec_bd h k
    show 0 ≤ dec k v - dec k v / 4 ∧ dec k v - dec k v / 4 ≤ v
    omega
theorem dec_mono {u v : Int} (h : u ≤ v) : ∀ k, dec k u ≤ dec k v
  | 0 => h
  | k + 1 => by
    have := dec_mono h k
    show dec k u - dec k u / 4 ≤ dec k v - dec k v / 4
    omega
theorem dec_20000 : dec 99 20000 ≤ 3 := by decide +kernel
theorem itE_eq {t : Int} (h : 0 ≤ t) : ∀ k, k < 1000 → itE t (k + 1) = ⟨(k : Int) + 1, 8 * t, dec k (2 * t), 0⟩
  | 0, _ => by
    show nxt z4 t = _
    unfold nxt
    rw [if_pos (show z4.n = 0 from rfl)]
    rfl
  | k + 1, hk => by
    show nxt (itE t (k + 1)) t = _
    rw [itE_eq h k (by omega)]
    unfold nxt
    rw [if_neg (by show ¬ (k : Int) + 1 = 0; omega)]
    have e : 8 * t / 8 = t := by omega
    simp only [e, Est.mk.injEq, and_true]
    refine ⟨by omega, by omega, ?_⟩
    show dec k (2 * t) + (max (t - t) (-(t - t)) - dec k (2 * t) / 4) = dec k (2 * t) - dec k (2 * t) / 4
    omega
theorem itE_ok {t : Int} (h : 0 ≤ t) (h' : t ≤ 65535) {k : Nat} (hk : k ≤ 100) : chk (itE t k) = 0 ∧ (itE t k).v ≤ 4294967296 := by
  rcases k with _ | k
  · exact ⟨show chk z4 = 0 by decide, show z4.v ≤ 4294967296 by decide⟩
  · rw [itE_eq h k (by omega)]
    have := dec_bd (v := 2 * t) (by omega) k
    exact ⟨chk_mk (by omega) (by omega) (by omega) (by omega) (by omega), by show dec k (2 * t) ≤ _; omega⟩
theorem itE_mean {t : Int} (h : 0 ≤ t) (h' : t ≤ 65535) {k : Nat} (hk : k < 100) : mean (itE t (k + 1)) = t := by
  unfold mean
  rw [if_pos (itE_ok h h' (by omega)).1, itE_eq h k (by omega)]
  show 8 * t / 8 = t
  omega
theorem itE_tmo {t : Int} (h : 0 ≤ t) (h' : t ≤ 65535) {k : Nat} (hk : k < 100) : tmo (itE t (k + 1)) = max (t + max (dec k (2 * t)) 1) 2 := by
  unfold tmo
  rw [if_pos (itE_ok h h' (by omega)).1, itE_eq h k (by omega)]
  unfold base
  rw [if_pos (by show 0 < (k : Int) + 1; omega)]
  show min (max (8 * t / 8 + max (dec k (2 * t)) 1) 2 * 2 ^ (0 : Int).toNat) (max (max (8 * t / 8 + max (dec k (2 * t)) 1) 2) 65536) = _
  rw [show ((2 : Int) ^ (0 : Int).toNat) = 1 from rfl, show 8 * t / 8 = t by omega]
  omega
theorem itE_less {t : Int} (h : 0 ≤ t) (h' : t ≤ 65535) {k : Nat} (hk : k < 100) : tmo (itE t (k + 1)) ≤ lastL t k := by
  rw [itE_tmo h h' hk]
  have := dec_bd (v := 2 * t) (by omega) k
  rcases k with _ | k
  · show _ ≤ (1099511627776 : Int)
    omega
  · show _ ≤ tmo (itE t (k + 1))
    rw [itE_tmo h h' (by omega)]
    show max (t + max (dec k (2 * t) - dec k (2 * t) / 4) 1) 2 ≤ _
    have := dec_bd (v := 2 * t) (by omega) k
    omega
theorem itE_last {t : Int} (h : 0 ≤ t) (h' : t ≤ 10000) : lastL t 100 ≤ max (t + 3) 2 := by
  show tmo (itE t (99 + 1)) ≤ _
  rw [itE_tmo h (by omega) (by omega)]
  have h1 := dec_mono (show 2 * t ≤ 20000 by omega) 99
  have h2 := dec_20000
  omega
theorem itE_smp {t : Int} (h : 0 ≤ t) (h' : t ≤ 65535) {k : Nat} (hk : k < 100) : smp (itE t k) t = (itE t (k + 1), 0) := by
  unfold smp
  rw [if_pos (itE_ok h h' (by omega)).1, if_pos (inB_of h (by omega))]
  rfl
/-- Samples of at most 65535. -/
def Ok5 (e : Est) : Prop := chk e = 0 ∧ e.v ≤ 300000
theorem nxt_ok5 {e : Est} {t : Int} (h : Ok5 e) (h0 : 0 ≤ t) (h1 : t ≤ 65535) (hs : e.s ≤ 524287) : Ok5 (nxt e t) := by
  refine ⟨nxt_ok h.1 (inB_of h0 (by omega)) (by have := h.2; omega), ?_⟩
  obtain ⟨a1, a2, a3, a4, a5⟩ := chk_ok h.1
  have hv := h.2
  unfold nxt
  split
  · show 2 * t ≤ _
    omega
  · show e.v + (max (t - e.s / 8) (-(t - e.s / 8)) - e.v / 4) ≤ _
    omega
theorem smp_ok5 {e : Est} {t : Int} (h : Ok5 e) (h0 : 0 ≤ t) (h1 : t ≤ 65535) : smp e t = (nxt e t, 0) := by
  unfold smp
  rw [if_pos h.1, if_pos (inB_of h0 (by omega))]
theorem exq_ok5 {e : Est} (h : Ok5 e) : Ok5 (exq e) ∧ exq e = ⟨e.n, e.s, e.v, min (e.b + 1) 12⟩ := by
  have e1 : exq e = ⟨e.n, e.s, e.v, min (e.b + 1) 12⟩ := by unfold exq; rw [if_pos h.1]
  refine ⟨⟨exq_ok h.1, ?_⟩, e1⟩
  rw [e1]
  exact h.2
/-- Between the least sample and the greatest. -/
def Bet (e : Est) (low high : Int) (any : Bool) : Prop := Ok5 e ∧ 0 ≤ low ∧ high ≤ 65535 ∧
  (any = false → e.n = 0) ∧ (any = true → 0 < e.n ∧ low ≤ high ∧ 8 * low ≤ e.s ∧ e.s ≤ 8 * high + 7)
theorem bet_s {e : Est} {low high : Int} {any : Bool} (h : Bet e low high any) : e.s ≤ 524287 := by
  obtain ⟨h1, h2, h3, h4, h5⟩ := h
  cases any
  · have := (chk_ok h1.1).2.2.2.2 (h4 rfl)
    omega
  · have := h5 rfl
    omega
theorem bet_exq {e : Est} {low high : Int} {any : Bool} (h : Bet e low high any) : Bet (exq e) low high any := by
  obtain ⟨h1, h2, h3, h4, h5⟩ := h
  obtain ⟨k1, k2⟩ := exq_ok5 h1
  refine ⟨k1, h2, h3, ?_, ?_⟩
  · rw [k2]; exact h4
  · rw [k2]; exact h5
theorem bet_first {e : Est} {low high t : Int} (h : Bet e low high false) (h0 : 0 ≤ t) (h1 : t ≤ 65535) : Bet (nxt e t) t t true := by
  have hs := bet_s h
  obtain ⟨k1, h2, h3, h4, h5⟩ := h
  refine ⟨nxt_ok5 k1 h0 h1 hs, h0, h1, (fun h => by cases h), fun _ => ?_⟩
  have hn := h4 rfl
  unfold nxt
  rw [if_pos hn, hn]
  refine ⟨(by decide : (0 : Int) < min (0 + 1) 1073741824), Int.le_refl _, ?_, ?_⟩
  · show 8 * t ≤ 8 * t; omega
  · show 8 * t ≤ 8 * t + 7; omega
theorem bet_next {e : Est} {low high t : Int} (h : Bet e low high true) (h0 : 0 ≤ t) (h1 : t ≤ 65535) : Bet (nxt e t) (min low t) (max high t) true := by
  have hs := bet_s h
  obtain ⟨k1, h2, h3, h4, h5⟩ := h
  obtain ⟨j1, j2, j3, j4⟩ := h5 rfl
  have := (chk_ok k1.1).1
  refine ⟨nxt_ok5 k1 h0 h1 hs, by omega, by omega, (fun h => by cases h), fun _ => ?_⟩
  unfold nxt
  rw [if_neg (by omega)]
  refine ⟨?_, by omega, ?_, ?_⟩
  · show 0 < min (e.n + 1) 1073741824; omega
  · show 8 * min low t ≤ e.s + (t - e.s / 8); omega
  · show e.s + (t - e.s / 8) ≤ 8 * max high t + 7; omega
theorem bet_mean {e : Est} {low high : Int} (h : Bet e low high true) : low ≤ mean e ∧ mean e ≤ high := by
  obtain ⟨k1, h2, h3, h4, h5⟩ := h
  obtain ⟨j1, j2, j3, j4⟩ := h5 rfl
  unfold mean
  rw [if_pos k1.1]
  omega
theorem bet_z4 : Bet z4 0 0 false := ⟨⟨by decide, by decide⟩, by decide, by decide, fun _ => rfl, fun h => by cases h⟩
/-- Timeout is greater than Mean; behind Expired it is not less, and doubles till it would exceed 65536. -/
theorem exceeds {e : Est} (h : Ok5 e) : mean e < tmo e ∧ tmo e ≤ tmo (exq e) ∧ 0 ≤ tmo e ∧ tmo (exq e) ≤ 39582418599936 ∧ (e.b < 12 → 2 * tmo e ≤ 65536 → tmo (exq e) = 2 * tmo e) ∧ ¬ (tmo e < tmo (exq e) ∧ 65536 < tmo (exq e)) := by
  obtain ⟨k1, k2⟩ := exq_ok5 h
  have hb := chk_ok h.1
  obtain ⟨b1, b2, b3⟩ := base_bd h.1
  have hbe : base (exq e) = base e := by rw [k2]; rfl
  have hm : mean e = e.s / 8 := by unfold mean; rw [if_pos h.1]
  have h1 : tmo e = min (base e * 2 ^ e.b.toNat) (max (base e) 65536) := by unfold tmo; rw [if_pos h.1]
  have h2 : tmo (exq e) = min (base e * 2 ^ (exq e).b.toNat) (max (base e) 65536) := by unfold tmo; rw [if_pos k1.1, hbe]
  have hbb : (exq e).b = min (e.b + 1) 12 := by rw [k2]
  obtain ⟨p1, p2⟩ := pow_b (b := e.b) (by omega) (by omega)
  have h3 : base e * 1 ≤ base e * 2 ^ e.b.toNat := Int.mul_le_mul_of_nonneg_left p1 (by omega)
  rw [hm]
  rcases Int.lt_or_le e.b 12 with hlt | hge
  · rw [hbb, show min (e.b + 1) 12 = e.b + 1 by omega, pow_next (by omega), Int.mul_left_comm] at h2
    generalize base e * 2 ^ e.b.toNat = z at h1 h2 h3
    omega
  · rw [hbb, show min (e.b + 1) 12 = e.b by omega] at h2
    generalize base e * 2 ^ e.b.toNat = z at h1 h2 h3
    omega
/-- Two estimators that differ in the backoff alone. -/
def Same (a b : Est) : Prop := Ok5 a ∧ Ok5 b ∧ a.n = b.n ∧ a.s = b.s ∧ a.v = b.v ∧ a.s ≤ 524287
theorem nxt_s {e : Est} {t : Int} (h : chk e = 0) (hs : e.s ≤ 524287) (h0 : 0 ≤ t) (h1 : t ≤ 65535) : (nxt e t).s ≤ 524287 := by
  obtain ⟨a1, a2, a3, a4, a5⟩ := chk_ok h
  unfold nxt
  split
  · show 8 * t ≤ _; omega
  · show e.s + (t - e.s / 8) ≤ _; omega
theorem same_exq {a b : Est} (h : Same a b) : Same (exq a) b := by
  obtain ⟨h1, h2, h3, h4, h5, h6⟩ := h
  obtain ⟨k1, k2⟩ := exq_ok5 h1
  refine ⟨k1, h2, ?_⟩
  rw [k2]
  exact ⟨h3, h4, h5, h6⟩
theorem same_eq {a b : Est} (h : Same a b) (t : Int) : nxt a t = nxt b t := by
  obtain ⟨h1, h2, h3, h4, h5, h6⟩ := h
  unfold nxt
  rw [h3, h4, h5]
theorem same_nxt {a b : Est} {t : Int} (h : Same a b) (h0 : 0 ≤ t) (h1 : t ≤ 65535) : Same (nxt a t) (nxt b t) := by
  rw [same_eq h]
  obtain ⟨k1, k2, h3, h4, h5, h6⟩ := h
  have hs : b.s ≤ 524287 := by omega
  exact ⟨nxt_ok5 k2 h0 h1 hs, nxt_ok5 k2 h0 h1 hs, rfl, rfl, rfl, nxt_s k2.1 hs h0 h1⟩
theorem same_z4 : Same z4 z4 := ⟨⟨by decide, by decide⟩, ⟨by decide, by decide⟩, rfl, rfl, rfl, by decide⟩
/-- A longer sample never makes Mean less. -/
theorem orders {e : Est} {a b : Int} (h : Ok5 e) (hs : e.s ≤ 524287) (hn : e.n ≤ 100) (ha : 0 ≤ a) (hab : a ≤ b) (hb : b ≤ 65535) : mean (nxt e a) ≤ mean (nxt e b) ∧ (nxt e a).n = e.n + 1 := by
  have h1 := (nxt_ok5 h ha (by omega) hs).1
  have h2 := (nxt_ok5 h (t := b) (by omega) hb hs).1
  have h3 := chk_ok h.1
  unfold mean
  rw [if_pos h1, if_pos h2]
  unfold nxt
  split
  · show 8 * a / 8 ≤ 8 * b / 8 ∧ min (e.n + 1) 1073741824 = e.n + 1
    omega
  · show (e.s + (a - e.s / 8)) / 8 ≤ (e.s + (b - e.s / 8)) / 8 ∧ min (e.n + 1) 1073741824 = e.n + 1
    omega
theorem nxt_n {e : Est} {t : Int} : (nxt e t).n = min (e.n + 1) 1073741824 := by unfold nxt; split <;> rfl
end Go.Proofs.Ytlbcidgmdfcamaa
