/- Receive. -/
import Derived.Test.YtkdladacmjkdoaaK
import Derived.Test.YtkdladacmjkdoaaM
namespace Go.Proofs.Ytkdladacmjkdoaa
open Go.RowKit Go.Lib
theorem receive_any (s : Ses) (now : Int) (m : Mes) (u : Int) (VA : Option Addr) (vn vc : Nat) (BA : Option Addr) (bn bc : Nat) (w : World) :
    Calls Try.prog 24 #[sv s, .int .i64 now, mv m u VA vn vc BA bn bc] w (RecQ (recR s m) w) := by
  by_cases hg : chk s = 0 ∧ (m.k = 5 ∨ m.k = 6 ∨ m.k = 7) ∧ m.f = s.r ∧ m.t = s.l ∧ timeB m.e = true ∧ timeB m.n = true
  · by_cases he : m.e < s.e
    · have e : recR s m = if m.k = 5 then (s, [nm 7 s]) else (s, []) := by unfold recR; rw [if_pos hg, if_pos he]
      rw [e]
      exact receive_old s now m u VA vn vc BA bn bc w hg he
    · have e : recR s m = actR m.k (if s.e < m.e then { s with e := m.e, p := 0, d := 0 } else s) m.n := by unfold recR; rw [if_pos hg, if_neg he]
      rw [e]
      have hh : s.e ≤ m.e := by omega
      obtain ⟨c0, k0, g3⟩ := hg
      unfold actR
      rcases k0 with k | k | k
      · rw [if_pos k]
        exact receive_hello s now m u VA vn vc BA bn bc w ⟨c0, k, g3⟩ hh
      · rw [if_neg (by omega), if_pos k]
        exact receive_welcome s now m u VA vn vc BA bn bc w ⟨c0, k, g3⟩ hh
      · rw [if_neg (by omega), if_neg (by omega)]
        exact receive_reset s now m u VA vn vc BA bn bc w ⟨c0, k, g3⟩ hh
  · have e : recR s m = (s, []) := by unfold recR; rw [if_neg hg]
    rw [e]
    exact receive_bad s now m u VA vn vc BA bn bc w hg
end Go.Proofs.Ytkdladacmjkdoaa
