/- The reference's Same, of what reads alike. -/
import Derived.Test.YtielamoaghibgaaRu
namespace Go.Proofs.Ytielamoaghibgaa
open Go.RowKit Go.Lib

theorem und46 : Try.prog.underlying 46 = some (.struct (Try.prog.fieldsOf 46)) := by kernel_rfl
set_option maxRecDepth 100000 in
theorem eql_same (a b : Int) (W : World) : (Op.equalIn 10000 46 (.agg #[.int .i64 a, .int .i64 b]) (.agg #[.int .i64 a, .int .i64 b])).run Try.prog W = .ok true W := by
  rw [show (10000 : Nat) = 9999 + 1 from rfl, run_equalIn_agg W 9999 46 _ _ und46 (by kernel_rfl)]
  simp [go_sem, Sem.run_bind]

set_option maxHeartbeats 4000000 in
set_option maxRecDepth 100000 in
theorem same_any (l : List (Nat × Nat)) (v u : Value) (w : World) (hv : Arr w v 2 (l.map cE)) (hu : Arr w u 2 (l.map cE)) :
    Calls Try.prog 18 #[v, u] w fun e w' => e = .returned (.bool true) ∧ ∃ q, w' = w.drewN q := by
  obtain ⟨C1, k1, rfl, hcap1, hcm1, b1, o1, hA1, hc1⟩ := hv
  obtain ⟨C2, k2, rfl, hcap2, hcm2, b2, o2, hA2, hc2⟩ := hu
  unfold maxLen at hcm1 hcm2
  rw [List.length_map] at hcap1 hcap2 hA1 hA2 ⊢
  have HC1 := hid hc1
  have HC2 := hid hc2
  clear hc1 hc2
  go_enter Try.func18, Try.ntmps18
  go_wp2
  go_loopw [5] (fun i wr => ∃ k : Nat, k ≤ l.length ∧ i = .int .i64 (k : Int) ∧ ∃ q, wr = w.drewN q) (fun i _ => l.length - (Lib.intOf i).toNat)
  case atStart => exact ⟨0, by omega, rfl, 0, rfl⟩
  case round =>
    obtain ⟨k, hk, rfl, q, rfl⟩ := hrel
    by_cases hkl : k < l.length
    · obtain ⟨e1, hb1⟩ := hA1 (by omega)
      obtain ⟨e2, hb2⟩ := hA2 (by omega)
      subst e1 e2
      obtain ⟨⟨a, b⟩, hx⟩ : ∃ x, l[k]? = some x := ⟨l[k], List.getElem?_eq_getElem hkl⟩
      have hkc : (k : Int) < (l.length : Int) := by omega
      have q0 : w.cell? ⟨b1, o1 + k * 2 + 0, none⟩ = some (.int .i64 (a : Int)) := HC1.out k (cE (a, b)) (by rw [List.getElem?_map, hx]; rfl) 0 _ rfl
      have q1 : w.cell? ⟨b1, o1 + k * 2 + 1, none⟩ = some (.int .i64 (b : Int)) := HC1.out k (cE (a, b)) (by rw [List.getElem?_map, hx]; rfl) 1 _ rfl
      have p0 : w.cell? ⟨b2, o2 + k * 2 + 0, none⟩ = some (.int .i64 (a : Int)) := HC2.out k (cE (a, b)) (by rw [List.getElem?_map, hx]; rfl) 0 _ rfl
      have p1 : w.cell? ⟨b2, o2 + k * 2 + 1, none⟩ = some (.int .i64 (b : Int)) := HC2.out k (cE (a, b)) (by rw [List.getElem?_map, hx]; rfl) 1 _ rfl
      rw [Nat.add_zero] at q0 p0
      have heq := eql_same (a : Int) (b : Int)
      clear hx
      go_wp2_with fail
      go_quiet (fail)
      go_wp2
      go_roundw
      case rel => exact ⟨k + 1, by omega, by go_num, _, rfl⟩
      case measure => simp [Lib.intOf]; omega
    · obtain rfl : k = l.length := by omega
      go_wp2
      go_ret
      exact ⟨rfl, q, rfl⟩
theorem arr_of_ext {w : World} {base : Nat} {v : Value} {l : List (Nat × Nat)} (h : w.ownsRow base 46 2 v l.length (l.map cE).flatten) : Arr w v 2 (l.map cE) := by
  have h' : w.ownsRow base 46 2 v (l.map cE).length (l.map cE).flatten := by rw [List.length_map]; exact h
  exact arr_of_own h' rfl (fun r hr => by
    obtain ⟨s, _, rfl⟩ := List.mem_map.1 hr
    rfl)
end Go.Proofs.Ytielamoaghibgaa
