/- The reference's Pair. -/
import Derived.Test.YtgkcdmbhniipdaaU
namespace Go.Proofs.Ytgkcdmbhniipdaa
open Go.RowKit Go.Lib Go.Shelf

theorem shr_byte (a m : Nat) : ((a : Int) / 2 ^ (8 * m)) % 256 = ((a / 256 ^ m % 256 : Nat) : Int) := by
  rw [show 256 ^ m = 2 ^ (8 * m) by rw [Nat.pow_mul], Int.natCast_emod, Int.natCast_ediv, Int.natCast_pow]
  rfl

set_option maxHeartbeats 2000000 in
theorem rpair_any (a b : Nat) (w : World) :
    Calls Try.prog 24 #[.int .u64 (a : Int), .int .u64 (b : Int)] w fun e w' => e = .returned (.int .u64 (pairS a b : Nat)) ∧ Below w.heap.size w w' := by
  have hfl := flat_length (le8_secs [a, b])
  have HF8 := hid (flat_B8 (le8_secs [a, b]))
  have HG := hid (fun (i m y : Nat) (h1 : [a, b][i]? = some y) (h2 : m < 8) => (flat_get (le8_secs [a, b]) (i := i) (m := m) (s := le8 y) (by rw [List.getElem?_map, h1]; rfl) h2).trans (le8_get y m h2))
  have HP : Hid (pairS a b = dig ([a, b].map le8).flatten) := hid rfl
  obtain ⟨d, hd⟩ : ∃ d, pairS a b = d := ⟨_, rfl⟩
  rw [hd] at HP ⊢
  obtain ⟨fl, hfe⟩ : ∃ fl, ([a, b].map le8).flatten = fl := ⟨_, rfl⟩
  rw [hfe] at HG HF8 hfl HP
  have hfl16 : fl.length = 16 := by rw [hfl]; rfl
  clear hd hfe hfl
  have HL := hid hfl16
  clear hfl16
  go_enter Try.func24, Try.ntmps24
  go_wp2
  go_loopw [5, 6] (fun v i wr => ∃ k : Nat, k ≤ 8 ∧ i = .int .i64 (k : Int) ∧ Hid (wr.ownsRow w.heap.size 5 1 v k ((fl.take k).map byteV)) ∧ Hid (Below w.heap.size w wr)) (fun _ i _ => 8 - (intOf i).toNat)
  case atStart => exact ⟨0, by omega, rfl, hid (World.ownsRow_nil _ _ _ _), hid (Below.refl _ _)⟩
  case round =>
    obtain ⟨k, hk, rfl, HO, HB⟩ := hrel
    obtain ⟨av, cv, rfl⟩ := own_form HO.out
    by_cases hk8 : k < 8
    · have hBs := HB.out.size
      have HN := hid (take_succ' (HG.out 0 k a rfl hk8))
      have hsb := shr_byte a k
      have hzl : a / 256 ^ k % 256 < 256 := Nat.mod_lt _ (by decide)
      obtain ⟨z, hz⟩ : ∃ z, a / 256 ^ k % 256 = z := ⟨_, rfl⟩
      rw [hz] at HN hsb hzl
      rw [show 8 * 0 + k = k by omega] at HN
      clear hz
      go_wp2_with (at_builtin; refine append_byt rfl (.tmp 12) (.tmp 18) rfl w.heap.size (.slice av (k) cv) (k) _ rfl (HO.out.alloc _) [z] _ rfl (byt_one wr z hzl) (nilOk_some _ _ _) (by simp; omega) (by simp; omega) ?_; intro v1 w1 hown1 hg1; have HB1 := hid (below_own (HB.out.alloc hBs _) (HO.out.alloc (.cells #[.int .u8 (z : Int)] 5)) hg1 (by simp; omega) (Nat.le_refl _)); have HO1 := hid hown1; clear hown1 hg1)
      go_roundw
      case rel => exact ⟨k + 1, by omega, by go_num, hid (by
        have h := HO1.out
        rw [own_snoc, ← HN.out] at h
        exact h), HB1⟩
      case measure => simp [intOf]; omega
    · obtain rfl : k = 8 := by omega
      obtain ⟨wo, rfl⟩ : ∃ wo : World, wo = wr := ⟨_, rfl⟩
      rw [show ((8 : Nat) : Int) = 8 from rfl]
      go_wp2
      go_loopw [5, 7] (fun v i wr => ∃ k : Nat, k ≤ 8 ∧ i = .int .i64 (k : Int) ∧ Hid (wr.ownsRow w.heap.size 5 1 v (8 + k) ((fl.take (8 + k)).map byteV)) ∧ Hid (Below w.heap.size w wr)) (fun _ i _ => 8 - (intOf i).toNat)
      case atStart => exact ⟨0, by omega, rfl, HO, HB⟩
      case round =>
        clear HO HB
        obtain ⟨k, hk, rfl, HO, HB⟩ := hrel
        obtain ⟨av, cv, rfl⟩ := own_form HO.out
        by_cases hk8 : k < 8
        · have hBs := HB.out.size
          have HN := hid (take_succ' (HG.out 1 k b rfl hk8))
          have hsb := shr_byte b k
          have hzl : b / 256 ^ k % 256 < 256 := Nat.mod_lt _ (by decide)
          obtain ⟨z, hz⟩ : ∃ z, b / 256 ^ k % 256 = z := ⟨_, rfl⟩
          rw [hz] at HN hsb hzl
          rw [show 8 * 1 + k = 8 + k by omega] at HN
          clear hz
          go_wp2_with (at_builtin; refine append_byt rfl (.tmp 24) (.tmp 30) rfl w.heap.size (.slice av (8 + k) cv) (8 + k) _ rfl (HO.out.alloc _) [z] _ rfl (byt_one wr z hzl) (nilOk_some _ _ _) (by simp; omega) (by simp; omega) ?_; intro v1 w1 hown1 hg1; have HB1 := hid (below_own (HB.out.alloc hBs _) (HO.out.alloc (.cells #[.int .u8 (z : Int)] 5)) hg1 (by simp; omega) (Nat.le_refl _)); have HO1 := hid hown1; clear hown1 hg1)
          go_roundw
          case rel => exact ⟨k + 1, by omega, by go_num, hid (by
            have h := HO1.out
            rw [own_snoc, ← HN.out] at h
            exact h), HB1⟩
          case measure => simp [intOf]; omega
        · obtain rfl : k = 8 := by omega
          have HV : Hid (Byt wr (.slice av 16 cv) fl) := hid (by
            have h := HO.out
            rw [List.take_of_length_le (by have := HL.out; omega)] at h
            exact byt_of_own h HF8.out)
          have hl16 := HL.out
          clear HO
          go_wp2_with fail
          refine (rdigest_any fl _ _ HV.out).mono ?_
          rintro e w2 ⟨rfl, rfl⟩
          rw [← HP.out]
          go_wp2
          go_ret
          exact ⟨rfl, HB.out⟩
end Go.Proofs.Ytgkcdmbhniipdaa
