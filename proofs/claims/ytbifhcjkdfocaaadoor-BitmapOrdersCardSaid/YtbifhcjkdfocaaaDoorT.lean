/- fits and fill. -/
import Derived.Test.YtbifhcjkdfocaaaDoorE
import Derived.RegionTactic
import Derived.StillTailTactics
namespace Go.Proofs.YtbifhcjkdfocaaaDoor
open Go.RowKit

def fitsB (s n size : Int) : Bool := decide (0 ≤ s ∧ 0 ≤ n ∧ n ≤ size - s)
set_option maxHeartbeats 2000000 in
theorem fits_any (s n size : Int) (w : World) (hs : R64 s) (hn : R64 n) (h0 : 0 ≤ size) (h1 : size ≤ 4096) :
    Calls Tryd.prog 51 #[.agg #[.int .i64 s, .int .i64 n], .int .i64 size] w fun e w' => e = .returned (.bool (fitsB s n size)) ∧ Below w.heap.size w w' := by
  obtain ⟨hs1, hs2⟩ := hs
  obtain ⟨hn1, hn2⟩ := hn
  by_cases ha : 0 ≤ s
  · by_cases hb : 0 ≤ n
    · by_cases hc : n ≤ size - s
      · have hf : fitsB s n size = true := by simp [fitsB]; omega
        rw [hf]
        clear hf
        go_enter Tryd.func51, Tryd.ntmps51
        go_wp2
        go_ret
        exact ⟨rfl, (Below.refl _ _).alloc (Nat.le_refl _) _⟩
      · have hf : fitsB s n size = false := by simp [fitsB]; omega
        rw [hf]
        clear hf
        go_enter Tryd.func51, Tryd.ntmps51
        go_wp2
        go_ret
        exact ⟨rfl, (Below.refl _ _).alloc (Nat.le_refl _) _⟩
    · have hf : fitsB s n size = false := by simp [fitsB]; omega
      rw [hf]
      clear hf
      have hb' : ¬ n ≥ 0 := hb
      go_enter Tryd.func51, Tryd.ntmps51
      go_wp2
      go_ret
      exact ⟨rfl, (Below.refl _ _).alloc (Nat.le_refl _) _⟩
  · have hf : fitsB s n size = false := by simp [fitsB]; omega
    rw [hf]
    clear hf
    have ha' : ¬ s ≥ 0 := ha
    go_enter Tryd.func51, Tryd.ntmps51
    go_wp2
    go_ret
    exact ⟨rfl, (Below.refl _ _).alloc (Nat.le_refl _) _⟩

/-- The word with the bits from a to a + n - 1. -/
def run1 (a n : Nat) : Nat := (2 ^ n - 1) * 2 ^ a
theorem run1_bits (a n j : Nat) : (run1 a n).testBit j = decide (a ≤ j ∧ j < a + n) := by
  unfold run1
  rw [Nat.mul_comm, Nat.testBit_two_pow_mul, Nat.testBit_two_pow_sub_one]
  by_cases h : a ≤ j
  · rw [decide_eq_true h, Bool.true_and]
    simp only [decide_eq_decide]
    omega
  · rw [decide_eq_false h, Bool.false_and, decide_eq_false (fun hh => h hh.1)]
theorem run1_small {a n : Nat} (h : a + n ≤ 64) : run1 a n < 18446744073709551616 := by
  have : run1 a n < 2 ^ 64 := by
    apply Nat.lt_pow_two_of_testBit
    intro j hj
    rw [run1_bits]
    exact decide_eq_false (fun hh => by omega)
  exact this
theorem shr_ones {n : Nat} (hn : n ≤ 64) : 18446744073709551615 / 2 ^ (64 - n) = 2 ^ n - 1 := by
  have e : (18446744073709551615 : Nat) = 2 ^ 64 - 1 := by decide
  rw [e]
  apply Nat.eq_of_testBit_eq
  intro j
  rw [Nat.testBit_div_two_pow, Nat.testBit_two_pow_sub_one, Nat.testBit_two_pow_sub_one]
  simp only [decide_eq_decide]
  omega

theorem wide_set {us : List Nat} {y : Nat} (h : Wide us) (hy : y < 18446744073709551616) (k : Nat) : Wide (us.set k y) := fun x hx => by
  rcases List.mem_or_eq_of_mem_set hx with h1 | h1
  · exact h x h1
  · rw [h1]; exact hy
theorem set_bits {us ws : List Nat} {k n x y f : Nat} (hx : us[k / 64]? = some x) (hn : k % 64 + n ≤ 64) (hfk : f ≤ k) (hb : ∀ i, bit us i = (bit ws i || decide (f ≤ i ∧ i < k))) (hy : x ||| run1 (k % 64) n = y) :
    ∀ i, bit (us.set (k / 64) y) i = (bit ws i || decide (f ≤ i ∧ i < k + n)) := fun i => by
  have hlt := (List.getElem?_eq_some_iff.1 hx).1
  by_cases e : i / 64 = k / 64
  · have h1 : bit (us.set (k / 64) y) i = y.testBit (i % 64) := by
      unfold bit
      rw [e]
      simp [List.getD, List.getElem?_set_self hlt]
    have h2 : bit us i = x.testBit (i % 64) := by
      unfold bit
      rw [e]
      simp [List.getD, hx]
    rw [h1, ← hy, Nat.testBit_or, run1_bits, ← h2, hb i, Bool.or_assoc]
    congr 1
    rw [Bool.eq_iff_iff]
    simp only [Bool.or_eq_true, decide_eq_true_eq]
    omega
  · have h1 : bit (us.set (k / 64) y) i = bit us i := by
      unfold bit
      simp [List.getD, List.getElem?_set_ne (fun h => e h.symm)]
    rw [h1, hb i]
    congr 1
    simp only [decide_eq_decide]
    omega

set_option maxHeartbeats 4000000 in
set_option maxRecDepth 100000 in
theorem fill_any (g f c cap : Nat) (ws : List Nat) (w : World) (hk : Wk w g ws) (hw : Wide ws) (hfit : f + c ≤ 64 * ws.length) (hln : ws.length ≤ 64) (_hcap : ws.length ≤ cap) (_hcm : cap ≤ maxLen) :
    Calls Tryd.prog 52 #[.slice (some ⟨g, 0, none⟩) ws.length cap, .agg #[.int .i64 f, .int .i64 c]] w fun e w' => e = .returned (.tuple #[]) ∧ ∃ ws', Wk w' g ws' ∧ ws'.length = ws.length ∧ Wide ws' ∧ (∀ i, bit ws' i = (bit ws i || decide (f ≤ i ∧ i < f + c))) ∧ w.grownBy w' (some g) := by
  obtain ⟨w1, h1⟩ : ∃ w1, w.alloc (.cells #[.int .i64 f, .int .i64 c] 39) = w1 := ⟨_, rfl⟩
  have r1 : w1.heap[w.heap.size]? = some (.cells #[.int .i64 f, .int .i64 c] 39 (0, 0)) := by rw [← h1]; exact heap_alloc_new w _
  have x0 := cell_of_row _ _ 0 _ _ _ r1
  have x1 := cell_of_row _ _ 1 _ _ _ r1
  have HG : Hid (w.grownBy w1 (some g)) := hid (by rw [← h1]; exact World.grownBy_alloc w _ _)
  have HK : Hid (Wk w1 g ws) := hid (by rw [← h1]; exact hk.below ((Below.refl _ w).alloc (Nat.le_refl _) _))
  have HW := hid hw
  clear hk hw r1
  go_enter Tryd.func52, Tryd.ntmps52
  go_wp2
  go_quiet (fail)
  rename_i nq
  have HG2 : Hid (w.grownBy (w1.drewN nq) (some g)) := hid ⟨HG.out.os, HG.out.tape, HG.out.output, HG.out.size, HG.out.block⟩
  have HK2 : Hid (Wk (w1.drewN nq) g ws) := hid HK.out
  clear HG HK x0 x1 h1
  generalize w1.drewN nq = w2 at HG2 HK2 ⊢
  go_wp2
  go_loopw [4] (fun i wr => ∃ (k : Nat) (us : List Nat), f ≤ k ∧ k ≤ f + c ∧ i = .int .i64 k ∧ us.length = ws.length ∧ Hid (Wide us) ∧ Hid (Wk wr g us) ∧ Hid (∀ i, bit us i = (bit ws i || decide (f ≤ i ∧ i < k))) ∧ Hid (w.grownBy wr (some g))) (fun i _ => f + c - (intOf i).toNat)
  case atStart => exact ⟨f, ws, Nat.le_refl _, by omega, rfl, rfl, HW, HK2, hid (fun i => by rw [decide_eq_false (by omega), Bool.or_false]), HG2⟩
  case round =>
    clear HK2 HG2
    obtain ⟨k, us, hfk, hkf, rfl, hlu, HWU, HKU, HBU, HGU⟩ := hrel
    by_cases hlt : k < f + c
    · obtain ⟨x, hx⟩ : ∃ x, us[k / 64]? = some x := ⟨us[k / 64]'(by omega), List.getElem?_eq_getElem (by omega)⟩
      have hxl := HWU.out x (List.mem_of_getElem? hx)
      have cx := HKU.out.cell hx
      have fx := HKU.out.frozen (k / 64)
      have hq : k / 64 < ws.length := by omega
      have ht : Int.tdiv (k : Int) 64 = ((k / 64 : Nat) : Int) := by rw [Int.tdiv_eq_ediv_of_nonneg (by omega)]; omega
      have hlt' : (k : Int) < (f : Int) + c := by omega
      by_cases hle : f + c - k ≤ 64 - k % 64
      · obtain ⟨n, hn⟩ : ∃ n : Nat, n = f + c - k := ⟨_, rfl⟩
        have hle' : (f : Int) + c - k ≤ 64 - (k : Int) % 64 := by omega
        have hv : (f : Int) + c - k = (n : Int) := by omega
        have hn1 : 1 ≤ n := by omega
        have hn2 : k + n ≤ f + c := by omega
        have hn3 : k % 64 + n ≤ 64 := by omega
        have HN := hid (And.intro hn1 (And.intro hn2 hn3))
        have hshr : (18446744073709551615 : Int) / 2 ^ (64 - n) = ((2 ^ n - 1 : Nat) : Int) := by
          rw [← shr_ones (by omega)]; simp
        have hrun := run1_small hn3
        have hshl : ((2 ^ n - 1 : Nat) : Int) * 2 ^ (k % 64) = ((run1 (k % 64) n : Nat) : Int) := by unfold run1; simp
        obtain ⟨r, hr⟩ : ∃ r, run1 (k % 64) n = r := ⟨_, rfl⟩
        rw [hr] at hrun hshl
        have hwr : IntKind.u64.wrap (((2 ^ n - 1 : Nat) : Int) * 2 ^ (k % 64)) = (r : Int) := by rw [hshl, IntKind.wrap_u64]; omega
        have hor := u64_or_nat x r hxl hrun
        obtain ⟨y, hy⟩ : ∃ y, x ||| r = y := ⟨_, rfl⟩
        rw [hy] at hor
        have hyl : y < 18446744073709551616 := by rw [← hy]; exact Nat.or_lt_two_pow (n := 64) hxl hrun
        have HR := hid hr
        obtain ⟨p1, hp1⟩ : ∃ p1, (2 ^ n - 1 : Nat) = p1 := ⟨_, rfl⟩
        rw [hp1] at hshr hwr
        have HSET := hid (HKU.out.set (i := k / 64) (by omega) y)
        have HNEW := hid (set_bits (ws := ws) (y := y) hx hn3 hfk HBU.out (by rw [hr]; exact hy))
        have HWN := hid (wide_set HWU.out hyl (k / 64))
        clear hr hp1 hshl hn hy HR hx
        go_wp2
        go_region
        go_wp2
        go_roundw
        case rel => exact ⟨k + n, us.set (k / 64) y, by omega, by omega, by go_num, by rw [List.length_set]; exact hlu, HWN, HSET, HNEW, hid ⟨HGU.out.os, HGU.out.tape, HGU.out.output, by have := HGU.out.size; simpa using this, fun q hq hne => (Below.heap_setCell _ _ _ _ (fun e => hne (by rw [e]))).trans (HGU.out.block q hq hne)⟩⟩
        case measure => simp [intOf]; omega
      · obtain ⟨n, hn⟩ : ∃ n : Nat, n = 64 - k % 64 := ⟨_, rfl⟩
        have hle' : ¬ (f : Int) + c - k ≤ 64 - (k : Int) % 64 := by omega
        have hv : 64 - (k : Int) % 64 = (n : Int) := by omega
        have hn1 : 1 ≤ n := by omega
        have hn2 : k + n ≤ f + c := by omega
        have hn3 : k % 64 + n ≤ 64 := by omega
        have HN := hid (And.intro hn1 (And.intro hn2 hn3))
        have hshr : (18446744073709551615 : Int) / 2 ^ (64 - n) = ((2 ^ n - 1 : Nat) : Int) := by
          rw [← shr_ones (by omega)]; simp
        have hrun := run1_small hn3
        have hshl : ((2 ^ n - 1 : Nat) : Int) * 2 ^ (k % 64) = ((run1 (k % 64) n : Nat) : Int) := by unfold run1; simp
        obtain ⟨r, hr⟩ : ∃ r, run1 (k % 64) n = r := ⟨_, rfl⟩
        rw [hr] at hrun hshl
        have hwr : IntKind.u64.wrap (((2 ^ n - 1 : Nat) : Int) * 2 ^ (k % 64)) = (r : Int) := by rw [hshl, IntKind.wrap_u64]; omega
        have hor := u64_or_nat x r hxl hrun
        obtain ⟨y, hy⟩ : ∃ y, x ||| r = y := ⟨_, rfl⟩
        rw [hy] at hor
        have hyl : y < 18446744073709551616 := by rw [← hy]; exact Nat.or_lt_two_pow (n := 64) hxl hrun
        have HR := hid hr
        obtain ⟨p1, hp1⟩ : ∃ p1, (2 ^ n - 1 : Nat) = p1 := ⟨_, rfl⟩
        rw [hp1] at hshr hwr
        have HSET := hid (HKU.out.set (i := k / 64) (by omega) y)
        have HNEW := hid (set_bits (ws := ws) (y := y) hx hn3 hfk HBU.out (by rw [hr]; exact hy))
        have HWN := hid (wide_set HWU.out hyl (k / 64))
        clear hr hp1 hshl hn hy HR hx
        go_wp2
        go_region
        go_wp2
        go_roundw
        case rel => exact ⟨k + n, us.set (k / 64) y, by omega, by omega, by go_num, by rw [List.length_set]; exact hlu, HWN, HSET, HNEW, hid ⟨HGU.out.os, HGU.out.tape, HGU.out.output, by have := HGU.out.size; simpa using this, fun q hq hne => (Below.heap_setCell _ _ _ _ (fun e => hne (by rw [e]))).trans (HGU.out.block q hq hne)⟩⟩
        case measure => simp [intOf]; omega
    · obtain rfl : k = f + c := by omega
      go_wp2
      go_end0
      exact ⟨rfl, us, HKU.out, hlu, HWU.out, HBU.out, HGU.out⟩
end Go.Proofs.YtbifhcjkdfocaaaDoor
