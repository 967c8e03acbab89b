/- Count, the package's and the reference's; the reference's Next. -/
import Derived.Test.YtbifhcjkdfocaaaDoorG
namespace Go.Proofs.YtbifhcjkdfocaaaDoor
open Go.RowKit

/-- How many of the numbers below n satisfy p. -/
def ct (p : Nat → Bool) : Nat → Nat
  | 0 => 0
  | n + 1 => ct p n + (if p n = true then 1 else 0)
theorem ct_le (p : Nat → Bool) (n : Nat) : ct p n ≤ n := by
  induction n with
  | zero => exact Nat.le_refl 0
  | succ n ih => unfold ct; split <;> omega
theorem ct_congr {p q : Nat → Bool} {n : Nat} (h : ∀ i, i < n → p i = q i) : ct p n = ct q n := by
  induction n with
  | zero => rfl
  | succ n ih => unfold ct; rw [ih (fun i hi => h i (by omega)), h n (by omega)]
theorem ct_yes {p : Nat → Bool} {n : Nat} (h : p n = true) : ct p (n + 1) = ct p n + 1 := by
  show ct p n + (if p n = true then 1 else 0) = _
  rw [if_pos h]
theorem ct_no {p : Nat → Bool} {n : Nat} (h : p n = false) : ct p (n + 1) = ct p n := by
  show ct p n + (if p n = true then 1 else 0) = _
  rw [if_neg (by rw [h]; decide), Nat.add_zero]
theorem ct_add (p : Nat → Bool) (n m : Nat) : ct p (n + m) = ct p n + ct (fun j => p (n + j)) m := by
  induction m with
  | zero => rfl
  | succ m ih =>
    show ct p (n + m) + (if p (n + m) = true then 1 else 0) = ct p n + (ct (fun j => p (n + j)) m + (if p (n + m) = true then 1 else 0))
    rw [ih, Nat.add_assoc]
theorem ct_none {p : Nat → Bool} {n m : Nat} (hm : n ≤ m) (h : ∀ i, n ≤ i → i < m → p i = false) : ct p m = ct p n := by
  induction m with
  | zero => have : n = 0 := by omega
            rw [this]
  | succ m ih =>
    by_cases e : n = m + 1
    · rw [e]
    · rw [ct_no (h m (by omega) (by omega))]
      exact ih (by omega) (fun i h1 h2 => h i h1 (by omega))
theorem ct_first (p : Nat → Bool) (n : Nat) : ct p (n + 1) = (if p 0 = true then 1 else 0) + ct (fun j => p (j + 1)) n := by
  have := ct_add p 1 n
  rw [Nat.add_comm 1 n] at this
  rw [this]
  have e : ct p 1 = (if p 0 = true then 1 else 0) := by show 0 + (if p 0 = true then 1 else 0) = _; rw [Nat.zero_add]
  rw [e]
  congr 1
  exact ct_congr fun i _ => by rw [Nat.add_comm 1 i]
theorem pop_ct (n : Nat) : ∀ x : Nat, pop n x = ct (fun j => x.testBit j) n := by
  induction n with
  | zero => intro x; rfl
  | succ n ih =>
    intro x
    rw [ct_first]
    show x % 2 + pop n (x / 2) = _
    rw [ih (x / 2)]
    congr 1
    · rw [Nat.testBit_zero]
      rcases Nat.mod_two_eq_zero_or_one x with h | h <;> simp [h]
    · exact ct_congr fun i _ => by rw [Nat.testBit_succ]
theorem ct_word {ws : List Nat} {k x : Nat} (hx : ws[k]? = some x) : ct (bit ws) (64 * (k + 1)) = ct (bit ws) (64 * k) + pop 64 x := by
  rw [Nat.mul_add, Nat.mul_one, ct_add, pop_ct]
  congr 1
  refine ct_congr fun i hi => ?_
  unfold bit
  have e1 : (64 * k + i) / 64 = k := by omega
  have e2 : (64 * k + i) % 64 = i := by omega
  rw [e1, e2]
  simp [List.getD, hx]
theorem ct_good {s : Nat} {ws : List Nat} (hg : Good s ws) : ct (bit ws) (64 * ws.length) = ct (bit ws) s := by
  have := hg.len
  exact ct_none (by omega) (fun i h1 _ => hg.clean i (by omega))

noncomputable def cnt (s : Int) (ws : List Nat) : Int := if chk s ws = 0 then ct (bit ws) s.toNat else 0
theorem cnt_bad {s : Int} {ws : List Nat} (h : ¬ chk s ws = 0) : cnt s ws = 0 := by unfold cnt; rw [if_neg h]
theorem cnt_good {s : Nat} {ws : List Nat} (h : chk s ws = 0) : cnt s ws = ct (bit ws) s := by unfold cnt; rw [if_pos h, Int.toNat_natCast]

set_option maxHeartbeats 4000000 in
theorem count_any (s : Int) (ws : List Nat) (v : Value) (w : World) (hv : Bm w v s ws) :
    Calls Tryd.prog 20 #[v] w fun e w' => e = .returned (.int .i64 (cnt s ws)) ∧ Below w.heap.size w w' := by
  have HCHK := hid (fun (w1 : World) (hb : Below w.heap.size w w1) => check_any s ws v w1 (hv.below hb))
  have hB0 : ∀ o, Below w.heap.size w (w.alloc o) := fun o => (Below.refl _ w).alloc (Nat.le_refl _) o
  obtain ⟨hs, hr, A, cap, rfl, hcap, hcm, b, off, hA, hc⟩ := hv
  have HC := hid hc
  have HR := hid hr
  have HB0 := hid hB0
  clear hc hr hB0
  by_cases hg : chk s ws = 0
  · have good := chk_zero hg
    have hlow := good.low
    have hhigh := good.high
    have hlen := good.len
    have hln : ws.length ≤ 64 := by omega
    obtain ⟨f, rfl⟩ := Int.eq_ofNat_of_zero_le hlow
    have HN := hid ((cnt_good hg).trans (congrArg Int.ofNat (ct_good good).symm))
    rw [hg] at HCHK
    clear good hg
    go_enter Tryd.func20, Tryd.ntmps20
    go_wp2_with (go_at_call 16; refine (HCHK.out _ (HB0.out _)).mono ?_; rintro e w1 ⟨rfl, hb1⟩; have y0 := box_cell hb1 0; have y1 := box_cell hb1 1)
    have HB1 := hid (below_more hb1 (Nat.le_refl _))
    clear hb1 y0 y1 HCHK HB0
    go_loopw [3, 12] (fun n i wr => ∃ (k : Nat), k ≤ ws.length ∧ i = .int .i64 k ∧ n = .int .i64 (ct (bit ws) (64 * k)) ∧ wr = w1) (fun _ i _ => ws.length - (intOf i).toNat)
    case atStart => exact ⟨0, Nat.zero_le _, rfl, rfl, rfl⟩
    case round =>
      obtain ⟨k, hk, rfl, rfl, rfl⟩ := hrel
      by_cases hlt : k < ws.length
      · obtain ⟨hA1, hb⟩ := hA (by omega)
        subst hA1
        obtain ⟨x, hx⟩ : ∃ x, ws[k]? = some x := ⟨ws[k], List.getElem?_eq_getElem hlt⟩
        have hxl := HR.out x (List.mem_of_getElem? hx)
        have hcl := (HB1.out.cell (p := ⟨b, off + k, none⟩) hb).trans (HC.out _ _ hx)
        have HCW := hid (ct_word hx)
        have h1 := ct_le (bit ws) (64 * k)
        have h2 := pop_le 64 x
        obtain ⟨c, hc⟩ : ∃ c, ct (bit ws) (64 * k) = c := ⟨_, rfl⟩
        obtain ⟨q, hq⟩ : ∃ q, pop 64 x = q := ⟨_, rfl⟩
        have HO := fun W => ones_any x W hxl
        rw [hq] at HO h2 HCW
        rw [hc] at h1 HCW
        rw [hc]
        have HO' := hid HO
        clear HO hx hc hq
        go_wp2_with (go_at_call 41; refine (HO'.out _).mono ?_; rintro e w2 ⟨rfl, rfl⟩)
        go_roundw
        case rel => exact ⟨k + 1, by omega, by go_num, by rw [HCW.out]; go_num, trivial⟩
        case measure => simp [intOf]; omega
      · obtain rfl : k = ws.length := by omega
        go_wp2
        refine bodyPost_ret (results_tmp rfl _ _ _) rfl ?_
        exact ⟨ret_int HN.out.symm, HB1.out⟩
  · have h3 : chk s ws = 3 := by rcases chk_cases s ws with h | h <;> omega
    have hq := hid (cnt_bad hg)
    rw [h3] at HCHK
    go_enter Tryd.func20, Tryd.ntmps20
    go_wp2_with (go_at_call 16; refine (HCHK.out _ (HB0.out _)).mono ?_; rintro e w1 ⟨rfl, hb1⟩; have y0 := box_cell hb1 0; have y1 := box_cell hb1 1)
    refine bodyPost_ret (results_tmp rfl _ _ _) rfl ?_
    exact ⟨ret_int hq.out.symm, below_more hb1 (Nat.le_refl _)⟩

set_option maxHeartbeats 4000000 in
theorem refCount_any (s : Int) (ws : List Nat) (v : Value) (w : World) (hv : Bm w v s ws) :
    Calls Tryd.prog 21 #[v] w fun e w' => e = .returned (.int .i64 (cnt s ws)) ∧ Below w.heap.size w w' := by
  have HCHK := hid (fun (w1 : World) (hb : Below w.heap.size w w1) => refCheck_any s ws v w1 (hv.below hb))
  have HBIT := hid (fun (k : Nat) (w1 : World) (hb : Below w.heap.size w w1) (hk : k < 64 * ws.length) (hk2 : k < 1000000) => bit_any s ws v k w1 (hv.below hb) hk hk2)
  have hB0 : ∀ o, Below w.heap.size w (w.alloc o) := fun o => (Below.refl _ w).alloc (Nat.le_refl _) o
  obtain ⟨hs, hr, A, cap, rfl, hcap, hcm, b, off, hA, hc⟩ := hv
  have HB0 := hid hB0
  clear hc hr hB0 hA
  by_cases hg : chk s ws = 0
  · have good := chk_zero hg
    have hlow := good.low
    have hhigh := good.high
    have hlen := good.len
    obtain ⟨f, rfl⟩ := Int.eq_ofNat_of_zero_le hlow
    have HN := hid (cnt_good hg)
    rw [hg] at HCHK
    clear good hg
    go_enter Tryd.func21, Tryd.ntmps21
    go_wp2_with (go_at_call 17; refine (HCHK.out _ (HB0.out _)).mono ?_; rintro e w1 ⟨rfl, hb1⟩)
    clear HCHK HB0
    go_loopw [3, 4] (fun n i wr => ∃ (k : Nat), k ≤ f ∧ i = .int .i64 k ∧ n = .int .i64 (ct (bit ws) k) ∧ Below (w.alloc (.cells #[.int .i64 f, .slice A ws.length cap] 24)).heap.size (w.alloc (.cells #[.int .i64 f, .slice A ws.length cap] 24)) wr) (fun _ i _ => f - (intOf i).toNat)
    case atStart => exact ⟨0, Nat.zero_le _, rfl, rfl, hb1⟩
    case round =>
      obtain ⟨k, hk, rfl, rfl, hB⟩ := hrel
      have x0 := box_cell hB 0
      have x1 := box_cell hB 1
      have hB1 := hid (below_more hB (Nat.le_refl _))
      have HBB := hid hB
      clear hB hb1
      by_cases hlt : k < f
      · have h1 := ct_le (bit ws) k
        obtain ⟨c, hc⟩ : ∃ c, ct (bit ws) k = c := ⟨_, rfl⟩
        rw [hc] at h1
        rw [hc]
        have HCC := hid hc
        clear hc
        cases hbk : bit ws k with
        | true =>
          have HY := hid (ct_yes hbk)
          go_wp2_with (go_at_call 40; refine (HBIT.out k _ hB1.out (by omega) (by omega)).mono ?_; rintro e w2 ⟨rfl, hb2⟩; have hbk2 := hbk)
          go_roundw
          case rel => exact ⟨k + 1, by omega, by go_num, by rw [HY.out, HCC.out]; go_num, below_both HBB.out hb2⟩
          case measure => simp [intOf]; omega
        | false =>
          have HY := hid (ct_no hbk)
          go_wp2_with (go_at_call 40; refine (HBIT.out k _ hB1.out (by omega) (by omega)).mono ?_; rintro e w2 ⟨rfl, hb2⟩; have hbk2 := hbk)
          go_roundw
          case rel => exact ⟨k + 1, by omega, by go_num, by rw [HY.out, HCC.out], below_both HBB.out hb2⟩
          case measure => simp [intOf]; omega
      · obtain rfl : k = f := by omega
        go_wp2
        refine bodyPost_ret (results_tmp rfl _ _ _) rfl ?_
        exact ⟨ret_int HN.out.symm, hB1.out⟩
  · have h3 : chk s ws = 3 := by rcases chk_cases s ws with h | h <;> omega
    have hq := hid (cnt_bad hg)
    rw [h3] at HCHK
    go_enter Tryd.func21, Tryd.ntmps21
    go_wp2_with (go_at_call 17; refine (HCHK.out _ (HB0.out _)).mono ?_; rintro e w1 ⟨rfl, hb1⟩)
    refine bodyPost_ret (results_tmp rfl _ _ _) rfl ?_
    exact ⟨ret_int hq.out.symm, below_more hb1 (Nat.le_refl _)⟩
end Go.Proofs.YtbifhcjkdfocaaaDoor
