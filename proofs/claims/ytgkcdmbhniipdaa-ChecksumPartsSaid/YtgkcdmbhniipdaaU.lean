/- The bytes of two numbers: the iterator, Pair and the reference's Pair. -/
import Derived.Test.YtgkcdmbhniipdaaR
import Derived.Laws.Shifts
namespace Go.Proofs.Ytgkcdmbhniipdaa
open Go.RowKit Go.Lib Go.Shelf
attribute [local go_sem] Oper.semAt_some

/-- The eight bytes of a number, the least significant one first. -/
def le8 (a : Nat) : List Nat := (List.range 8).map fun m => a / 256 ^ m % 256
theorem le8_length (a : Nat) : (le8 a).length = 8 := by unfold le8; simp
theorem le8_B8 (a : Nat) : B8 (le8 a) := fun x hx => by
  unfold le8 at hx
  obtain ⟨m, _, rfl⟩ := List.mem_map.1 hx
  exact Nat.mod_lt _ (by decide)
theorem le8_get (a m : Nat) (hm : m < 8) : (le8 a)[m]? = some (a / 256 ^ m % 256) := by unfold le8; rw [List.getElem?_map, List.getElem?_range hm]; rfl
theorem le8_secs (nums : List Nat) : Secs (nums.map le8) := fun s hs => by
  obtain ⟨a, _, rfl⟩ := List.mem_map.1 hs
  exact ⟨le8_length a, le8_B8 a⟩
theorem div_pow (a m : Nat) : a / 256 ^ m / 256 = a / 256 ^ (m + 1) := by rw [Nat.div_div_eq_div_mul, Nat.pow_succ]

set_option maxHeartbeats 4000000 in
set_option maxRecDepth 100000 in
theorem numbers_streams (n Bs g n₀ : Nat) (nums : List Nat) (w : World) (hn : 1 ≤ n) (hL : nums.length ≤ 1000) (hg : g < n₀) (hn₀ : n₀ ≤ w.heap.size) (hlt : Bs < w.heap.size) (hc0 : w.cell? ⟨Bs, 0, none⟩ = some (.slice (some ⟨g, 0, none⟩) nums.length nums.length))
    (hnum : ∀ (i y : Nat), nums[i]? = some y → y < 18446744073709551616 ∧ w.cell? ⟨g, i, none⟩ = some (.int .u64 (y : Int))) :
    Streams n 37 #[.pointer (some ⟨Bs, 0, none⟩)] n₀ (nums.map le8).flatten w := by
  intro l0 J Jx W hW hJ hJx hY h0
  have hBs := (hW.cell (p := ⟨Bs, 0, none⟩) hlt).trans hc0
  have hfl := flat_length (le8_secs nums)
  rw [List.length_map] at hfl
  have HG := hid (fun (i m y : Nat) (h1 : nums[i]? = some y) (h2 : m < 8) => (flat_get (le8_secs nums) (i := i) (m := m) (s := le8 y) (by rw [List.getElem?_map, h1]; rfl) h2).trans (le8_get y m h2))
  have HC := hid (fun (i y : Nat) (h : nums[i]? = some y) => (hW.cell (p := ⟨g, i, none⟩) (show g < w.heap.size by omega)).trans (hnum i y h).2)
  have HR := hid (fun (i y : Nat) (h : nums[i]? = some y) => (hnum i y h).1)
  have HY := hid hY
  have hwW : n₀ ≤ W.heap.size := Nat.le_trans hn₀ hW.size
  clear hY hJ hJx hW hc0 hlt hnum
  obtain ⟨fl, hfe⟩ : ∃ fl, (nums.map le8).flatten = fl := ⟨_, rfl⟩
  rw [hfe] at HG hfl HY ⊢
  clear hfe
  refine callsIn_of_wp Try.func37 rfl trivial ?_ rfl
  simp only [Try.ntmps37, List.size_toArray, List.length_cons, List.length_nil, Nat.reduceAdd, Nat.reduceSub, Array.replicate_succ, Array.replicate_zero, List.push_toArray, List.append_toArray, List.nil_append, List.cons_append]
  gi_wp2
  gi_loopw [7] (fun i wr => ∃ (k : Nat) (pre : List (Fin 256)), k ≤ nums.length ∧ i = .int .i64 (k : Int) ∧ Hid (pre.map (·.val) = fl.take (8 * k)) ∧ Hid (J pre wr) ∧ Hid (Below n₀ W wr)) (fun i _ => nums.length - (intOf i).toNat)
  case atStart => exact ⟨0, [], Nat.zero_le _, rfl, hid (by simp), hid h0, hid (Below.refl _ _)⟩
  case round =>
    clear h0 hBs
    obtain ⟨k, pre, hk, rfl, HP, HJ, HB⟩ := hrel
    by_cases hkl : k < nums.length
    · obtain ⟨s, hs⟩ : ∃ s, nums[k]? = some s := ⟨nums[k], List.getElem?_eq_getElem hkl⟩
      have hsl := HR.out k s hs
      have hcs := (HB.out.cell (p := ⟨g, k, none⟩) hg).trans (HC.out k s hs)
      have HGS := hid (fun (m : Nat) (h : m < 8) => HG.out k m s hs h)
      clear hs
      gi_wp2
      gi_loopw [4, 11] (fun r i wi => ∃ (m y : Nat) (pre : List (Fin 256)), m ≤ 8 ∧ i = .int .i64 (m : Int) ∧ r = .int .u64 (y : Int) ∧ Hid (y = s / 256 ^ m) ∧ Hid (pre.map (·.val) = fl.take (8 * k + m)) ∧ Hid (J pre wi) ∧ Hid (Below n₀ W wi)) (fun _ i _ => 8 - (intOf i).toNat)
      case atStart => exact ⟨0, s, pre, by omega, rfl, rfl, hid (by simp), hid HP.out, HJ, HB⟩
      case round =>
        clear HP HJ HB hcs
        obtain ⟨m, y, pre, hm, rfl, rfl, HE, HP, HJ, HB⟩ := hrel
        have hyl : y < 18446744073709551616 := by rw [HE.out]; exact Nat.lt_of_le_of_lt (Nat.div_le_self _ _) hsl
        by_cases hm8 : m < 8
        · have hfx := HGS.out m hm8
          rw [← HE.out] at hfx
          have hzl : y % 256 < 256 := Nat.mod_lt _ (by decide)
          have HP2 := hid (take_map hzl HP.out hfx)
          have HE2 : Hid (y / 256 = s / 256 ^ (m + 1)) := hid (by rw [HE.out, div_pow])
          obtain ⟨fn, tmps, assign, body, hy, hR⟩ := HY.out pre ⟨y % 256, hzl⟩ wr HJ.out (pre_short HP.out (by omega))
          dsimp only at hy
          rw [show ((y % 256 : Nat) : Int) = (y : Int) % 256 from Int.natCast_emod _ _] at hy
          have HR2 := hid hR
          clear hR hfx
          gi_wp2
          refine HR2.out.mono ?_
          rintro e W3 (⟨rfl, hJ3, hk3⟩ | ⟨rfl, hJx3⟩)
          · have HJ3 := hid hJ3
            have HB3 := hid (HB.out.trans hk3)
            clear hJ3 hk3
            gi_wp2
            go_roundw
            case rel => exact ⟨m + 1, y / 256, _, by omega, by go_num, u64_eq (by omega), HE2, HP2, HJ3, HB3⟩
            case measure => simp [intOf]; omega
          · gi_wp2
            refine bodyPost_ret (results_none rfl _ _ _) rfl ?_
            exact ⟨⟨_, rfl⟩, .inr ⟨_, trivial, hJx3⟩⟩
        · obtain rfl : m = 8 := by omega
          gi_wp2
          go_roundw
          case rel => exact ⟨k + 1, pre, by omega, by go_num, hid (by rw [show 8 * (k + 1) = 8 * k + 8 by omega]; exact HP.out), HJ, HB⟩
          case measure => simp [intOf]; omega
    · obtain rfl : k = nums.length := by omega
      gi_wp2
      go_end0
      exact ⟨⟨_, rfl⟩, .inl ⟨_, by rw [HP.out, ← hfl, List.take_of_length_le (Nat.le_refl _)], HJ.out⟩⟩

theorem numberBytes_any (v : Value) (w : World) (a : Option Addr) (len cap : Nat) (hv : v = .slice a len cap) :
    Calls Try.prog 32 #[v] w fun e w' => e = .returned (.func (.func 37) #[] #[.pointer (some ⟨w.heap.size, 0, none⟩)]) ∧ w.alloc (.cells #[v] 62) = w' := by
  subst hv
  go_enter Try.func32, Try.ntmps32
  go_wp2
  go_ret
  exact ⟨rfl, rfl⟩
theorem enters37 : ∀ args w, (callFunc 37 args).run Try.prog w = .ok (.enter 37 args) w := enters_of Try.func37 (by kernel_rfl) rfl
/-- The digest of a pair. -/
noncomputable def pairS (a b : Nat) : Nat := dig ([a, b].map le8).flatten

set_option maxHeartbeats 2000000 in
theorem pair_any (a b : Nat) (w : World) (ha : a < 18446744073709551616) (hb : b < 18446744073709551616) :
    Calls Try.prog 23 #[.int .u64 (a : Int), .int .u64 (b : Int)] w fun e w' => e = .returned (.int .u64 (pairS a b : Nat)) ∧ Below w.heap.size w w' := by
  obtain ⟨w1, hw1⟩ : ∃ w1, w.alloc (.cells #[.int .u64 (a : Int), .int .u64 (b : Int)] 32) = w1 := ⟨_, rfl⟩
  have hz1 : w1.heap.size = w.heap.size + 1 := by rw [← hw1]; simp
  have hblk : w1.heap[w.heap.size]? = some (.cells #[.int .u64 (a : Int), .int .u64 (b : Int)] 32 (0, 0)) := by rw [← hw1]; exact heap_alloc_new _ _
  have hb1 : Below w.heap.size w w1 := by rw [← hw1]; exact al1 _ _
  have HS := hid (numbers_streams 2 w1.heap.size w.heap.size w1.heap.size [a, b] (w1.alloc (.cells #[.slice (some ⟨w.heap.size, 0, none⟩) 2 2] 62)) (by decide) (by simp) (by omega) (by simp) (by simp) (Boxed.new w1 62 _).cell (fun i y hy => by
    have hc := cell_of_row w1 w.heap.size i _ _ _ hblk
    have hc2 := (Below.cell (al1 w1 (.cells #[.slice (some ⟨w.heap.size, 0, none⟩) 2 2] 62)) (p := ⟨w.heap.size, i, none⟩) (by show w.heap.size < w1.heap.size; omega)).trans hc
    rcases i with _ | _ | i
    · simp at hy; subst hy; exact ⟨ha, hc2⟩
    · simp at hy; subst hy; exact ⟨hb, hc2⟩
    · simp at hy))
  have HB1 := hid hb1
  have HP : Hid (pairS a b = dig ([a, b].map le8).flatten) := hid rfl
  obtain ⟨d, hd⟩ : ∃ d, pairS a b = d := ⟨_, rfl⟩
  rw [hd] at HP ⊢
  clear hd hblk hb1 hz1
  go_enter Try.func23, Try.ntmps23
  go_wp2_with (go_at_call 32; refine (numberBytes_any _ _ _ _ _ rfl).mono ?_; rintro e w2 ⟨rfl, rfl⟩)
  refine (digest_any 37 _ _ _ _ HS.out (by simp) enters37).mono ?_
  rintro e w3 ⟨rfl, hb⟩
  have HB := hid (below_both HB1.out (al_back hb))
  rw [← HP.out]
  clear hb
  go_wp2
  go_ret
  exact ⟨rfl, HB.out⟩
end Go.Proofs.Ytgkcdmbhniipdaa
