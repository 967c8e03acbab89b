/- numbers; awake. -/
import Derived.Test.YtjpfogdfgcfkcaaO
namespace Go.Proofs.Ytjpfogdfgcfkcaa
open Go.RowKit Go.Lib

set_option maxHeartbeats 4000000 in
set_option maxRecDepth 100000 in
theorem numbers_any (l : List Ev) (ns : List Int) (v u : Value) (w : World) (hv : EL w v l) (hu : IL w u ns) (hl : l.length ≤ 100000) :
    Calls Try.prog 29 #[v, u] w fun e w' => e = .returned (.bool (decide (l.map (fun x => x.n) = ns))) ∧ Below w.heap.size w w' := by
  obtain ⟨A, c, rfl⟩ := el_form hv
  obtain ⟨B, d, rfl⟩ := il_form hu
  obtain ⟨N, hN⟩ : ∃ N, l.length = N := ⟨_, rfl⟩
  obtain ⟨M, hM⟩ : ∃ M, ns.length = M := ⟨_, rfl⟩
  rw [hN] at hv hl ⊢
  rw [hM] at hu ⊢
  have HV := hid hv
  have HU := hid hu
  have HN := hid hN
  have HM := hid hM
  clear hv hu hN hM
  by_cases hlen : N = M
  · subst hlen
    have d1 : ((N : Int) != (N : Int)) = false := by simp
    go_enter Try.func29, Try.ntmps29
    go_wp2
    go_loopw [5] (fun i wr => ∃ k : Nat, k ≤ N ∧ i = .int .i64 (k : Int) ∧ Hid ((l.map (fun x => x.n)).take k = ns.take k) ∧ ∃ q, wr = w.drewN q) (fun i _ => N - (Go.RowKit.intOf i).toNat)
    case atStart => exact ⟨0, by omega, rfl, hid (by simp), 0, rfl⟩
    case round =>
      obtain ⟨k, hk, rfl, HT, q, rfl⟩ := hrel
      by_cases hkl : k < N
      · have hkl' : (k : Int) < (N : Int) := by omega
        obtain ⟨b, off, rfl, hbl, hc⟩ := el_cells HV.out (by rw [HN.out]; omega)
        obtain ⟨b2, off2, rfl, hbl2, hc2⟩ := il_cells HU.out (by rw [HM.out]; omega)
        obtain ⟨x, hx⟩ : ∃ x, l[k]? = some x := ⟨l[k]'(by rw [HN.out]; exact hkl), List.getElem?_eq_getElem _⟩
        obtain ⟨y, hy⟩ : ∃ y, ns[k]? = some y := ⟨ns[k]'(by rw [HM.out]; exact hkl), List.getElem?_eq_getElem _⟩
        obtain ⟨q0, q1, q2, q3, q4⟩ := hc k x hx
        have p0 := hc2 k y hy
        have hmx : (l.map (fun x => x.n))[k]? = some x.n := by rw [List.getElem?_map, hx]; rfl
        have HNX := hid (show x.n = y → (l.map (fun x => x.n)).take (k + 1) = ns.take (k + 1) from fun h => by rw [take_succ'' hmx, take_succ'' hy, HT.out, h])
        have HDF := hid (show x.n ≠ y → decide (l.map (fun x => x.n) = ns) = false from fun h => decide_eq_false (fun e => by rw [e, hy] at hmx; injection hmx with hmx; exact h hmx.symm))
        obtain ⟨xt, xn, xk, xo, xd, xp⟩ := x
        dsimp only at q0 q1 q2 q3 q4 HNX HDF
        obtain ⟨bb, hbb⟩ : ∃ bb, (xn != y) = bb := ⟨_, rfl⟩
        have HBB := hid hbb
        clear hc hc2 hx hy hmx
        go_wp2_with fail
        go_quiet (fail)
        rcases bb with _ | _
        · have he : xn = y := by have := HBB.out; simpa using this
          have HN1 := hid (HNX.out he)
          clear he
          go_wp2_with fail
          go_roundw
          case rel => exact ⟨k + 1, by omega, by go_num, HN1, _, rfl⟩
          case measure => simp [Go.RowKit.intOf]; omega
        · have he : xn ≠ y := by have := HBB.out; simpa using this
          have HD := hid (HDF.out he)
          clear he
          go_wp2_with fail
          go_ret
          exact ⟨(congrArg (fun b => Ending.returned (Value.bool b)) HD.out).symm, below_both_drewN (below_both_drewN (Below.refl _ _) q) nq⟩
      · obtain rfl : k = N := by omega
        have hall : l.map (fun x => x.n) = ns := by
          have h := HT.out
          rwa [List.take_of_length_le (by rw [List.length_map, HN.out]; omega), List.take_of_length_le (by rw [HM.out]; omega)] at h
        have HD := hid (decide_eq_true hall)
        clear hall
        go_wp2
        go_ret
        exact ⟨(congrArg (fun b => Ending.returned (Value.bool b)) HD.out).symm, below_both_drewN (Below.refl _ _) q⟩
  · have d1 : ((N : Int) != (M : Int)) = true := by rw [bne_iff_ne]; omega
    have HD : Hid (decide (l.map (fun x => x.n) = ns) = false) := hid (decide_eq_false (fun e => hlen (by have := congrArg List.length e; rw [List.length_map, HN.out, HM.out] at this; exact this)))
    clear hlen
    go_enter Try.func29, Try.ntmps29
    go_wp2
    go_ret
    exact ⟨(congrArg (fun b => Ending.returned (Value.bool b)) HD.out).symm, Below.refl _ _⟩

theorem il_lit (w : World) (l : List Int) (hl : l.length ≤ maxLen) : IL (w.alloc (.cells (l.map fun t => Value.int .i64 t).toArray 3)) (.slice (some ⟨w.heap.size, 0, none⟩) l.length l.length) l := by
  refine ⟨some ⟨w.heap.size, 0, none⟩, l.length, by rw [List.length_map], by rw [List.length_map]; exact Nat.le_refl _, hl, w.heap.size, 0, fun _ => ⟨rfl, by simp⟩, fun i r hi j u hj => ?_⟩
  rw [List.getElem?_map] at hi
  obtain ⟨t, ht, rfl⟩ := Option.map_eq_some_iff.1 hi
  unfold cI at hj
  rcases j with _ | j
  · simp at hj
    subst hj
    rw [cell_of_row _ _ _ _ _ _ (heap_alloc_new w _), List.getElem?_toArray, Nat.zero_add, Nat.mul_one, Nat.add_zero, List.getElem?_map, ht]
    rfl
  · simp at hj
def L4 : List Ec := [(0, 3, 3, 0, []), (3, 1, 1, 0, []), (5, 0, 0, 0, []), (5, 2, 2, 0, [])]
def L3 : List Ec := [(0, 3, 3, 0, []), (3, 1, 1, 0, []), (5, 2, 2, 0, [])]
def L1 : List Ec := [(5, 2, 2, 0, [])]
theorem exA : addsF [] 0 [5, 3, 5, 0] = (L4, 4, true) := by kernel_rfl
theorem exC : cancelS L4 4 0 = (L3, true) := by kernel_rfl
theorem exD1 : dueN L3 4 4 = 2 := by decide +kernel
theorem exD2 : dueN L1 4 5 = 1 := by decide +kernel
end Go.Proofs.Ytjpfogdfgcfkcaa
