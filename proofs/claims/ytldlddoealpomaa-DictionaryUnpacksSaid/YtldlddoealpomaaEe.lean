/- The reference's best. -/
import Derived.Test.YtldlddoealpomaaEd
namespace Go.Proofs.Ytldlddoealpomaa
open Go.RowKit Go.Lib

theorem cm_le (x : List Nat) (p a : Nat) : ∀ f n, cm x p a f n ≤ n + f
  | 0, n => by rw [cm]; omega
  | f + 1, n => by
    rw [cm]
    split
    · have := cm_le x p a f (n + 1); omega
    · omega
/-- The best match at a, of those at most d away: its distance and its length. -/
def bst (x : List Nat) (a : Nat) : Nat → Nat × Nat
  | 0 => (0, 0)
  | d + 1 => if 4 ≤ cm x (a - (d + 1)) a 131 0 ∧ (bst x a d).2 < cm x (a - (d + 1)) a 131 0 then (d + 1, cm x (a - (d + 1)) a 131 0) else bst x a d
theorem byt_drewN {w : World} {v : Value} {l : List Nat} (h : Byt w v l) (q : Nat) : Byt (w.drewN q) v l := h.below ⟨rfl, rfl, rfl, Nat.le_refl _, fun _ _ => rfl⟩
def BestQ (r : Nat × Nat) (w : World) (e : Ending) (w' : World) : Prop := e = .returned (.tuple #[.int .i64 (r.1 : Int), .int .i64 (r.2 : Int)]) ∧ ∃ q, w' = w.drewN q
set_option maxHeartbeats 4000000 in
set_option maxRecDepth 100000 in
theorem refBest_any (x : List Nat) (a : Nat) (vx : Value) (w : World) (hx : Byt w vx x) (hl : x.length ≤ 900000000000) (ha : a ≤ 900000000000) :
    Calls Try.prog 26 #[vx, .int .i64 (a : Int)] w (BestQ (bst x a (min 4096 a)) w) := by
  have HL := hid (fun (q p D : Nat) (h : p + D = a) => refLength_any x p a D vx (w.drewN q) (byt_drewN hx q) h hl ha)
  obtain ⟨A, c, rfl⟩ := byt_form hx
  obtain ⟨R, hR⟩ : ∃ R, bst x a (min 4096 a) = R := ⟨_, rfl⟩
  have HR := hid hR
  rw [hR]
  clear hR hx
  go_enter Try.func26, Try.ntmps26
  go_wp2
  go_loopw [6, 7, 8] (fun i j k wr => ∃ d D N : Nat, 1 ≤ d ∧ d ≤ min 4096 a + 1 ∧ i = .int .i64 (D : Int) ∧ j = .int .i64 (N : Int) ∧ k = .int .i64 (d : Int) ∧ N ≤ 131 ∧ Hid (bst x a (d - 1) = (D, N)) ∧ ∃ q, wr = w.drewN q) (fun _ _ k _ => 5000 - (Go.RowKit.intOf k).toNat)
  case atStart => exact ⟨1, 0, 0, by omega, by omega, rfl, rfl, rfl, by omega, hid rfl, 0, rfl⟩
  case round =>
    obtain ⟨d, D, N, hd1, hdm, rfl, rfl, rfl, hN, HB, q, rfl⟩ := hrel
    by_cases hd : d ≤ 4096
    · have e1 : decide ((d : Int) ≤ 4096) = true := by simp; omega
      by_cases hda : d ≤ a
      · have e2 : decide (d ≤ a) = true := by simp; omega
        have e2i : decide ((d : Int) ≤ (a : Int)) = true := by simp; omega
        have HC := hid (HL.out q (a - d) d (by omega))
        obtain ⟨n, hn⟩ : ∃ n, cm x (a - d) a 131 0 = n := ⟨_, rfl⟩
        have hn2 : n ≤ 131 := by rw [← hn]; have := cm_le x (a - d) a 131 0; omega
        have HS : Hid (bst x a d = if 4 ≤ n ∧ N < n then (d, n) else (D, N)) := hid (by
          obtain ⟨d', rfl⟩ : ∃ d', d = d' + 1 := ⟨d - 1, by omega⟩
          rw [Nat.add_sub_cancel] at HB
          rw [bst, hn, HB.out])
        rw [hn] at HC
        clear hn HB
        go_wp2_with fail
        refine HC.out.mono ?_
        rintro e w1 ⟨rfl, q1, rfl⟩
        by_cases h4 : 4 ≤ n
        · have e3 : decide ((4 : Int) ≤ (n : Int)) = true := by simp; omega
          by_cases hNn : N < n
          · have e4 : decide (N < n) = true := by simp; omega
            have e4i : decide ((N : Int) < (n : Int)) = true := by simp; omega
            have HT : Hid (bst x a (d + 1 - 1) = (d, n)) := hid (by rw [Nat.add_sub_cancel, HS.out, if_pos ⟨h4, hNn⟩])
            clear HS
            go_wp2
            go_roundw
            case rel => exact ⟨d + 1, d, n, by omega, by omega, rfl, rfl, by go_num, hn2, HT, q + q1, by simp⟩
            case measure => simp [Go.RowKit.intOf]; omega
          · have e4 : decide (N < n) = false := by simp; omega
            have e4i : decide ((N : Int) < (n : Int)) = false := by simp; omega
            have HT : Hid (bst x a (d + 1 - 1) = (D, N)) := hid (by rw [Nat.add_sub_cancel, HS.out, if_neg (fun h => hNn h.2)])
            clear HS
            go_wp2
            go_roundw
            case rel => exact ⟨d + 1, D, N, by omega, by omega, rfl, rfl, by go_num, hN, HT, q + q1, by simp⟩
            case measure => simp [Go.RowKit.intOf]; omega
        · have e3 : decide ((4 : Int) ≤ (n : Int)) = false := by simp; omega
          have HT : Hid (bst x a (d + 1 - 1) = (D, N)) := hid (by rw [Nat.add_sub_cancel, HS.out, if_neg (fun h => h4 h.1)])
          clear HS
          go_wp2
          go_roundw
          case rel => exact ⟨d + 1, D, N, by omega, by omega, rfl, rfl, by go_num, hN, HT, q + q1, by simp⟩
          case measure => simp [Go.RowKit.intOf]; omega
      · have e2 : decide (d ≤ a) = false := by simp; omega
        have e2i : decide ((d : Int) ≤ (a : Int)) = false := by simp; omega
        have HT : Hid (R = (D, N)) := hid (by rw [← HR.out, ← HB.out]; congr 1; omega)
        clear HB
        go_wp2
        refine bodyPost_ret (v := .tuple #[.int .i64 (D : Int), .int .i64 (N : Int)]) (by simp [results, Try.results26, go_sem]) rfl ?_
        exact ⟨by rw [HT.out], q, rfl⟩
    · have e1 : decide ((d : Int) ≤ 4096) = false := by simp; omega
      have HT : Hid (R = (D, N)) := hid (by rw [← HR.out, ← HB.out]; congr 1; omega)
      clear HB
      go_wp2
      refine bodyPost_ret (v := .tuple #[.int .i64 (D : Int), .int .i64 (N : Int)]) (by simp [results, Try.results26, go_sem]) rfl ?_
      exact ⟨by rw [HT.out], q, rfl⟩
end Go.Proofs.Ytldlddoealpomaa
