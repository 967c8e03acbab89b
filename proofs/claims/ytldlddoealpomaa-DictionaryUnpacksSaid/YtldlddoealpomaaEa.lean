/- The encoder's common. -/
import Derived.Test.YtldlddoealpomaaS
import Derived.BigQuiet
import Derived.Deep.QuietTactic
import Derived.Deep.Draws
namespace Go.Proofs.Ytldlddoealpomaa
open Go.RowKit Go.Lib

/-- How many of f more bytes from a + n on are those from p + n on. -/
def cm (x : List Nat) (p a : Nat) : Nat → Nat → Nat
  | 0, n => n
  | f + 1, n => if a + n < x.length ∧ x.getD (p + n) 0 = x.getD (a + n) 0 then cm x p a f (n + 1) else n
def NumQ (n : Nat) (w : World) (e : Ending) (w' : World) : Prop := e = .returned (.int .i64 (n : Int)) ∧ ∃ q, w' = w.drewN q
set_option maxHeartbeats 4000000 in
set_option maxRecDepth 100000 in
theorem common_any (x : List Nat) (p a g : Nat) (vt vx vm : Value) (w : World) (hb : w.heap[g]? = some (.cells #[vt, vx, vm] 51)) (hx : Byt w vx x) (hpa : p ≤ a) (hl : x.length ≤ 900000000000) (ha : a ≤ 900000000000) :
    Calls Try.prog 60 #[.pointer (some ⟨g, 0, none⟩), .int .i64 (p : Int), .int .i64 (a : Int)] w (NumQ (cm x p a 131 0) w) := by
  obtain ⟨h8, A, c, rfl, hcap, hcm, b, off, hA, hc⟩ := hx
  have c1 : w.cell? ⟨g, 1, none⟩ = some (.slice A x.length c) := cell_of_row _ _ 1 _ _ _ hb
  obtain ⟨R, hR⟩ : ∃ R, cm x p a 131 0 = R := ⟨_, rfl⟩
  have HR := hid hR
  rw [hR]
  have HC := hid hc
  clear hb hc hR
  go_enter Try.func60, Try.ntmps60
  go_wp2
  go_loopw [7] (fun i wr => ∃ k : Nat, k ≤ 131 ∧ i = .int .i64 (k : Int) ∧ Hid (cm x p a (131 - k) k = R) ∧ ∃ q, wr = w.drewN q) (fun i _ => 131 - (Go.RowKit.intOf i).toNat)
  case atStart => exact ⟨0, by omega, rfl, HR, 0, rfl⟩
  case round =>
    obtain ⟨k, hk, rfl, HK, q, rfl⟩ := hrel
    by_cases hk1 : k < 131
    · have d1 : decide ((k : Int) < 131) = true := by simp; omega
      have HS : Hid ((if a + k < x.length ∧ x.getD (p + k) 0 = x.getD (a + k) 0 then cm x p a (131 - (k + 1)) (k + 1) else k) = R) := hid (by rw [← HK.out, show 131 - k = (131 - (k + 1)) + 1 by omega, cm])
      by_cases hak : a + k < x.length
      · have d2 : decide ((a : Int) + (k : Int) < (x.length : Int)) = true := by simp; omega
        have d2n : decide (a + k < x.length) = true := by simp; omega
        obtain ⟨rfl, hbl⟩ := hA (by omega)
        have hpk : p + k < x.length := by omega
        obtain ⟨y, hy⟩ : ∃ y, x.getD (p + k) 0 = y := ⟨_, rfl⟩
        obtain ⟨z, hz⟩ : ∃ z, x.getD (a + k) 0 = z := ⟨_, rfl⟩
        have cy : w.cell? ⟨b, off + (p + k), none⟩ = some (.int .u8 (y : Int)) := HC.out (p + k) y (by rw [← hy, List.getD_eq_getElem?_getD, List.getElem?_eq_getElem hpk]; rfl)
        have cz : w.cell? ⟨b, off + (a + k), none⟩ = some (.int .u8 (z : Int)) := HC.out (a + k) z (by rw [← hz, List.getD_eq_getElem?_getD, List.getElem?_eq_getElem hak]; rfl)
        rw [hy, hz] at HS
        clear hy hz HK
        by_cases hyz : y = z
        · have d3 : ((y : Int) == (z : Int)) = true := by simp; omega
          have HT : Hid (cm x p a (131 - (k + 1)) (k + 1) = R) := hid (by rw [← HS.out, if_pos ⟨hak, hyz⟩])
          clear HS hyz
          go_wp2
          go_quiet (fail)
          go_wp2
          go_roundw
          case rel => exact ⟨k + 1, by omega, by go_num, HT, _, rfl⟩
          case measure => simp [Go.RowKit.intOf]; omega
        · have d3 : ((y : Int) == (z : Int)) = false := by rw [beq_eq_false_iff_ne]; omega
          have HT : Hid (k = R) := hid (by rw [← HS.out, if_neg (fun h => hyz h.2)])
          clear HS hyz
          go_wp2
          go_quiet (fail)
          go_wp2
          go_ret
          exact ⟨congrArg (fun n : Nat => Ending.returned (.int .i64 (n : Int))) HT.out, q + nq, by simp⟩
      · have d2 : decide ((a : Int) + (k : Int) < (x.length : Int)) = false := by simp; omega
        have d2n : decide (a + k < x.length) = false := by simp; omega
        have HT : Hid (k = R) := hid (by rw [← HS.out, if_neg (fun h => hak h.1)])
        clear HS HK
        go_wp2
        go_quiet (fail)
        go_wp2
        go_ret
        exact ⟨congrArg (fun n : Nat => Ending.returned (.int .i64 (n : Int))) HT.out, q + nq, by simp⟩
    · have d1 : decide ((k : Int) < 131) = false := by simp; omega
      have hk2 : k = 131 := by omega
      have HT : Hid (k = R) := hid (by rw [← HK.out, hk2]; rfl)
      clear hk2 HK
      go_wp2
      go_quiet (fail)
      go_wp2
      go_ret
      exact ⟨congrArg (fun n : Nat => Ending.returned (.int .i64 (n : Int))) HT.out, q + nq, by simp⟩
end Go.Proofs.Ytldlddoealpomaa
