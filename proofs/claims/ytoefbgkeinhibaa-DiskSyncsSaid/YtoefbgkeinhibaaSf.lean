/- The reference's Decide, SameInts. -/
import Derived.Test.YtoefbgkeinhibaaSe
namespace Go.Proofs.Ytoefbgkeinhibaa
open Go.RowKit Go.Lib

def RDecQ (w : World) (lv : Value) (l : List Int) (n : Int) (e : Ending) (w' : World) : Prop := ∃ u, e = .returned (.tuple #[.int .i64 (dec l n), u]) ∧ (∀ X, Ints X lv l → Ints X u l.tail) ∧ Below w.heap.size w w'
set_option maxHeartbeats 2000000 in
set_option maxRecDepth 100000 in
theorem refDecide_any (l : List Int) (lv : Value) (n : Int) (w : World) (hv : Ints w lv l) (h0 : 0 < n) (h1 : n ≤ 2000000000) : Calls Try.prog 55 #[lv, .int .i64 n] w (RDecQ w lv l n) := by
  obtain ⟨A, ca, rfl⟩ := ints_form hv
  rcases l with _ | ⟨z, t⟩
  · have d0 : (((0 : Nat) : Int) == 0) = true := rfl
    have d0' : ((0 : Int) == 0) = true := rfl
    clear hv
    go_enter Try.func55, Try.ntmps55
    go_wp2
    go_ret2
    exact ⟨_, rfl, fun X _ => ⟨(fun x (hx : x ∈ []) => by cases hx), nilOk_nil, arr_nil _ _⟩, Below.refl _ _⟩
  · obtain ⟨m, hm⟩ : ∃ m, (z :: t).length = m := ⟨_, rfl⟩
    rw [hm] at hv ⊢
    obtain ⟨b, off, rfl, hb, hq⟩ := ints_cells hv (by simp)
    have q0 := hq 0 z rfl
    rw [Nat.add_zero] at q0
    have hm1 : 1 ≤ m := by rw [← hm]; simp
    have dm : ((m : Int) == 0) = false := by rw [beq_eq_false_iff_ne]; omega
    have hmI : (0 : Int) < (m : Int) := by omega
    have hmN : 0 < m := by omega
    have hsl := run_slice1 (some ⟨b, off, none⟩) m ca hm1
    obtain ⟨fA, hfA⟩ : ∃ fA, fromN 1 (some ⟨b, off, none⟩) ca 1 = fA := ⟨_, rfl⟩
    rw [hfA] at hsl
    have HT : Hid (∀ X, Ints X (.slice (some ⟨b, off, none⟩) m ca) (z :: t) → Ints X (.slice fA (m - 1) (ca - 1)) (z :: t).tail) := hid (fun X hX => by
      have h := ints_tail hX (by simp)
      rwa [hfA] at h)
    have hr := hv.1 z (List.mem_cons_self ..)
    have hl := Int.lt_tmod_of_pos z h0
    have hh := Int.tmod_lt_of_pos z h0
    have hne : (n == 0) = false := by rw [beq_eq_false_iff_ne]; omega
    have HS := hid (tmod_emod z n)
    obtain ⟨y, hy⟩ : ∃ y, z.tmod n = y := ⟨_, rfl⟩
    rw [hy] at hl hh HS
    have hwy : IntKind.i64.wrap y = y := by rw [IntKind.wrap_i64]; omega
    have hwy' : IntKind.i64.wrap (z.tmod n) = y := by rw [hy]; exact hwy
    have HY := hid hy
    clear hv hq hfA hm hr
    by_cases hy0 : y < 0
    · have dy : decide (y < 0) = true := decide_eq_true hy0
      have hR1 : IntKind.i64.wrap (y + n) = y + n := by rw [IntKind.wrap_i64]; omega
      have HD : Hid (y + n = dec (z :: t) n) := hid (by rw [show dec (z :: t) n = z % n from rfl, ← HS.out, Int.emod_eq_of_lt (by omega) (by omega)])
      go_enter Try.func55, Try.ntmps55
      go_upto_region 6 with fail
      go_quiet (fail)
      go_wp2_with fail
      go_ret2
      rw [HD.out]
      exact ⟨_, rfl, HT.out, below_drewN (Below.refl _ _) _⟩
    · have dy : decide (y < 0) = false := decide_eq_false hy0
      have HD : Hid (y = dec (z :: t) n) := hid (by
        have e : (y + n) % n = y := by rw [Int.add_emod_right, Int.emod_eq_of_lt (by omega) (by omega)]
        rw [show dec (z :: t) n = z % n from rfl, ← HS.out, e])
      go_enter Try.func55, Try.ntmps55
      go_upto_region 6 with fail
      go_quiet (fail)
      go_wp2_with fail
      go_ret2
      rw [HD.out]
      exact ⟨_, rfl, HT.out, below_drewN (Below.refl _ _) _⟩
set_option maxHeartbeats 2000000 in
set_option maxRecDepth 100000 in
theorem sameInts_eq (l : List Int) (v u : Value) (w : World) (h1 : Ints w v l) (h2 : Ints w u l) : Calls Try.prog 33 #[v, u] w (TrueQ w) := by
  obtain ⟨A, ca, rfl⟩ := ints_form h1
  obtain ⟨B, cb, rfl⟩ := ints_form h2
  obtain ⟨m, hm⟩ : ∃ m, l.length = m := ⟨_, rfl⟩
  have hmm : m ≤ 9223372036854775807 := by
    obtain ⟨h4, h5, h6⟩ := arr_cap h1.2.2
    rw [List.length_map] at h4
    omega
  rw [hm] at h1 h2 ⊢
  have H1 := hid h1
  have H2 := hid h2
  have HM := hid hm
  have dm : ((m : Int) != (m : Int)) = false := by simp
  clear h1 h2 hm
  go_enter Try.func33, Try.ntmps33
  go_upto_region 4 with fail
  go_loopw [5] (fun i wr => ∃ k : Nat, k ≤ m ∧ i = .int .i64 (k : Int) ∧ ∃ q, wr = w.drewN q) (fun i _ => m - (Go.RowKit.intOf i).toNat)
  case atStart => exact ⟨0, by omega, rfl, 0, rfl⟩
  case round =>
    obtain ⟨k, hk, rfl, q, rfl⟩ := hrel
    by_cases hkl : k < m
    · have hkl' : (k : Int) < (m : Int) := by omega
      obtain ⟨b1, o1, rfl, hb1, hk1⟩ := ints_cells H1.out (by rw [HM.out]; omega)
      obtain ⟨b2, o2, rfl, hb2, hk2⟩ := ints_cells H2.out (by rw [HM.out]; omega)
      obtain ⟨x, hx⟩ : ∃ x, l[k]? = some x := ⟨l[k]'(by rw [HM.out]; exact hkl), List.getElem?_eq_getElem _⟩
      have p0 := hk1 k _ hx
      have r0 := hk2 k _ hx
      have dx : (x != x) = false := by simp
      clear hk1 hk2 hx
      go_wp2_with fail
      go_quiet (fail)
      go_wp2_with fail
      go_roundw
      case rel => exact ⟨k + 1, by omega, by go_num, _, rfl⟩
      case measure => simp [Go.RowKit.intOf]; omega
    · obtain rfl : m = k := by omega
      have d0 : decide ((m : Int) < (m : Int)) = false := decide_eq_false (by omega)
      go_wp2_with fail
      go_ret
      exact ⟨rfl, below_drewN (Below.refl _ _) q⟩
end Go.Proofs.Ytoefbgkeinhibaa
