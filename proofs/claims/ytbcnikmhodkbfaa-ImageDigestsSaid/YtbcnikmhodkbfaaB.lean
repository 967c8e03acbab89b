/- slices.Equal of numbers, sectors, extents; SameSectors, SameVolume. -/
import Derived.Test.YtbcnikmhodkbfaaA
namespace Go.Proofs.Ytbcnikmhodkbfaa
open Go.RowKit Go.Lib
set_option maxHeartbeats 2000000 in
set_option maxRecDepth 100000 in
theorem eqInts_any (xs ys : List Int) (v u : Value) (w : World) (hv : Arr w v 1 (xs.map cInt)) (hu : Arr w u 1 (ys.map cInt)) :
    Calls Try.prog 37 #[v, u] w (SaysQ (decide (xs = ys)) w) := by
  obtain ⟨C1, k1, rfl, hcap1, hcm1, b1, o1, hA1, hc1⟩ := hv
  obtain ⟨C2, k2, rfl, hcap2, hcm2, b2, o2, hA2, hc2⟩ := hu
  unfold maxLen at hcm1 hcm2
  rw [List.length_map] at hcap1 hA1 hcap2 hA2 ⊢
  rw [List.length_map]
  have HC1 := hid hc1
  have HC2 := hid hc2
  clear hc1 hc2
  by_cases hlen : xs.length = ys.length
  · have d1 : ((xs.length : Int) != (ys.length : Int)) = false := by rw [hlen]; simp
    have HLEN := hid hlen
    clear hlen
    go_enter Try.func37, Try.ntmps37
    go_wp2
    go_loopw [13] (fun i wr => ∃ k : Nat, k ≤ xs.length ∧ i = .int .i64 (k : Int) ∧ Hid (xs.take k = ys.take k) ∧ ∃ q, wr = w.drewN q) (fun i _ => xs.length - (Go.RowKit.intOf i).toNat)
    case atStart => exact ⟨0, by omega, rfl, hid (by simp), 0, rfl⟩
    case round =>
      obtain ⟨k, hk, rfl, HT, q, rfl⟩ := hrel
      by_cases hkl : k < xs.length
      · have hl2 : k < ys.length := by have := HLEN.out; omega
        obtain ⟨e1, hb1⟩ := hA1 (by omega)
        obtain ⟨e2, hb2⟩ := hA2 (by omega)
        subst e1 e2
        obtain ⟨x, hx⟩ : ∃ x, xs[k]? = some x := ⟨xs[k], List.getElem?_eq_getElem hkl⟩
        obtain ⟨y, hy⟩ : ∃ y, ys[k]? = some y := ⟨ys[k], List.getElem?_eq_getElem hl2⟩
        have hr1 : ∀ (j : Nat) (z : Value), (cInt x)[j]? = some z → w.cell? ⟨b1, o1 + k * 1 + j, none⟩ = some z := fun j z hz => HC1.out k _ (by rw [List.getElem?_map, hx]; rfl) j z hz
        have hr2 : ∀ (j : Nat) (z : Value), (cInt y)[j]? = some z → w.cell? ⟨b2, o2 + k * 1 + j, none⟩ = some z := fun j z hz => HC2.out k _ (by rw [List.getElem?_map, hy]; rfl) j z hz
        have hnext : x = y → xs.take (k + 1) = ys.take (k + 1) := fun h => by
          obtain ⟨h1, h3⟩ := List.getElem?_eq_some_iff.1 hx
          obtain ⟨h2, h4⟩ := List.getElem?_eq_some_iff.1 hy
          rw [List.take_succ_eq_append_getElem h1, List.take_succ_eq_append_getElem h2, HT.out, h3, h4, h]
        have hdiff : x ≠ y → decide (xs = ys) = false := fun h => decide_eq_false (fun e => by rw [e, hy] at hx; injection hx with hx; exact h hx.symm)
        have q1 := hr1 0 _ rfl
        have q2 := hr2 0 _ rfl
        rw [Nat.add_zero, Nat.mul_one] at q1 q2
        clear hr1 hr2 hx hy
        by_cases hxy : x = y
        · have HN := hid (hnext hxy)
          have d2 : (x != y) = false := by simp [hxy]
          clear hxy
          clear hnext hdiff
          go_wp2_with fail
          go_quiet (fail)
          go_wp2
          go_roundw
          case rel => exact ⟨k + 1, by omega, by go_num, HN, _, rfl⟩
          case measure => simp [Go.RowKit.intOf]; omega
        · have HD := hid (hdiff hxy)
          have d2 : (x != y) = true := by simp [hxy]
          clear hxy
          clear hnext hdiff
          go_wp2_with fail
          go_quiet (fail)
          go_wp2
          go_ret
          exact ⟨(congrArg (fun b => Ending.returned (Value.bool b)) HD.out).symm, q + nq, by simp⟩
      · obtain rfl : k = xs.length := by omega
        have hall : xs = ys := by have h := HT.out; rwa [List.take_length, HLEN.out, List.take_length] at h
        have HD := hid (decide_eq_true hall)
        clear hall
        go_wp2
        go_ret
        exact ⟨(congrArg (fun b => Ending.returned (Value.bool b)) HD.out).symm, _, rfl⟩
  · have d1 : ((xs.length : Int) != (ys.length : Int)) = true := by rw [bne_iff_ne]; omega
    have HD : Hid (decide (xs = ys) = false) := hid (decide_eq_false (fun e => hlen (by rw [e])))
    clear hlen
    go_enter Try.func37, Try.ntmps37
    go_wp2
    go_ret
    exact ⟨(congrArg (fun b => Ending.returned (Value.bool b)) HD.out).symm, 0, rfl⟩
set_option maxHeartbeats 2000000 in
set_option maxRecDepth 100000 in
theorem eqExts_any (xs ys : List (Int × Int)) (v u : Value) (w : World) (hv : Arr w v 2 (xs.map cExt)) (hu : Arr w u 2 (ys.map cExt)) :
    Calls Try.prog 42 #[v, u] w (SaysQ (decide (xs = ys)) w) := by
  obtain ⟨C1, k1, rfl, hcap1, hcm1, b1, o1, hA1, hc1⟩ := hv
  obtain ⟨C2, k2, rfl, hcap2, hcm2, b2, o2, hA2, hc2⟩ := hu
  unfold maxLen at hcm1 hcm2
  rw [List.length_map] at hcap1 hA1 hcap2 hA2 ⊢
  rw [List.length_map]
  have HC1 := hid hc1
  have HC2 := hid hc2
  clear hc1 hc2
  by_cases hlen : xs.length = ys.length
  · have d1 : ((xs.length : Int) != (ys.length : Int)) = false := by rw [hlen]; simp
    have HLEN := hid hlen
    clear hlen
    go_enter Try.func42, Try.ntmps42
    go_wp2
    go_loopw [13] (fun i wr => ∃ k : Nat, k ≤ xs.length ∧ i = .int .i64 (k : Int) ∧ Hid (xs.take k = ys.take k) ∧ ∃ q, wr = w.drewN q) (fun i _ => xs.length - (Go.RowKit.intOf i).toNat)
    case atStart => exact ⟨0, by omega, rfl, hid (by simp), 0, rfl⟩
    case round =>
      obtain ⟨k, hk, rfl, HT, q, rfl⟩ := hrel
      by_cases hkl : k < xs.length
      · have hl2 : k < ys.length := by have := HLEN.out; omega
        obtain ⟨e1, hb1⟩ := hA1 (by omega)
        obtain ⟨e2, hb2⟩ := hA2 (by omega)
        subst e1 e2
        obtain ⟨x, hx⟩ : ∃ x, xs[k]? = some x := ⟨xs[k], List.getElem?_eq_getElem hkl⟩
        obtain ⟨y, hy⟩ : ∃ y, ys[k]? = some y := ⟨ys[k], List.getElem?_eq_getElem hl2⟩
        have hr1 : ∀ (j : Nat) (z : Value), (cExt x)[j]? = some z → w.cell? ⟨b1, o1 + k * 2 + j, none⟩ = some z := fun j z hz => HC1.out k _ (by rw [List.getElem?_map, hx]; rfl) j z hz
        have hr2 : ∀ (j : Nat) (z : Value), (cExt y)[j]? = some z → w.cell? ⟨b2, o2 + k * 2 + j, none⟩ = some z := fun j z hz => HC2.out k _ (by rw [List.getElem?_map, hy]; rfl) j z hz
        have hnext : x = y → xs.take (k + 1) = ys.take (k + 1) := fun h => by
          obtain ⟨h1, h3⟩ := List.getElem?_eq_some_iff.1 hx
          obtain ⟨h2, h4⟩ := List.getElem?_eq_some_iff.1 hy
          rw [List.take_succ_eq_append_getElem h1, List.take_succ_eq_append_getElem h2, HT.out, h3, h4, h]
        have hdiff : x ≠ y → decide (xs = ys) = false := fun h => decide_eq_false (fun e => by rw [e, hy] at hx; injection hx with hx; exact h hx.symm)
        obtain ⟨x0, x1⟩ := x
        obtain ⟨y0, y1⟩ := y
        have q0 : w.cell? ⟨b1, o1 + k * 2, none⟩ = some (.int .i64 x0) := hr1 0 _ rfl
        have q1 : w.cell? ⟨b1, o1 + k * 2 + 1, none⟩ = some (.int .i64 x1) := hr1 1 _ rfl
        have p0 : w.cell? ⟨b2, o2 + k * 2, none⟩ = some (.int .i64 y0) := hr2 0 _ rfl
        have p1 : w.cell? ⟨b2, o2 + k * 2 + 1, none⟩ = some (.int .i64 y1) := hr2 1 _ rfl
        have heq := fun (W : World) => eql_ext x0 x1 y0 y1 W
        obtain ⟨bb, hbb⟩ : ∃ bb, decide (((x0, x1) : Int × Int) = (y0, y1)) = bb := ⟨_, rfl⟩
        rw [hbb] at heq
        clear hr1 hr2 hx hy
        by_cases hxy : bb = true
        · have HN := hid (hnext (of_decide_eq_true (hbb.trans hxy)))
          subst hxy
          clear hbb
          clear hnext hdiff
          go_wp2_with fail
          go_quiet (fail)
          go_wp2
          go_roundw
          case rel => exact ⟨k + 1, by omega, by go_num, HN, _, rfl⟩
          case measure => simp [Go.RowKit.intOf]; omega
        · have HD := hid (hdiff (of_decide_eq_false (hbb.trans (by simpa using hxy))))
          have hxf : bb = false := by simpa using hxy
          subst hxf
          clear hbb hxy
          clear hnext hdiff
          go_wp2_with fail
          go_quiet (fail)
          go_wp2
          go_ret
          exact ⟨(congrArg (fun b => Ending.returned (Value.bool b)) HD.out).symm, q + nq, by simp⟩
      · obtain rfl : k = xs.length := by omega
        have hall : xs = ys := by have h := HT.out; rwa [List.take_length, HLEN.out, List.take_length] at h
        have HD := hid (decide_eq_true hall)
        clear hall
        go_wp2
        go_ret
        exact ⟨(congrArg (fun b => Ending.returned (Value.bool b)) HD.out).symm, _, rfl⟩
  · have d1 : ((xs.length : Int) != (ys.length : Int)) = true := by rw [bne_iff_ne]; omega
    have HD : Hid (decide (xs = ys) = false) := hid (decide_eq_false (fun e => hlen (by rw [e])))
    clear hlen
    go_enter Try.func42, Try.ntmps42
    go_wp2
    go_ret
    exact ⟨(congrArg (fun b => Ending.returned (Value.bool b)) HD.out).symm, 0, rfl⟩
set_option maxHeartbeats 2000000 in
set_option maxRecDepth 100000 in
theorem eqSecs_any (xs ys : List (List Nat)) (v u : Value) (w : World) (hv : Arr w v 8 (xs.map cSec)) (hu : Arr w u 8 (ys.map cSec)) (hok1 : Secs xs) (hok2 : Secs ys) :
    Calls Try.prog 27 #[v, u] w (SaysQ (decide (xs = ys)) w) := by
  obtain ⟨C1, k1, rfl, hcap1, hcm1, b1, o1, hA1, hc1⟩ := hv
  obtain ⟨C2, k2, rfl, hcap2, hcm2, b2, o2, hA2, hc2⟩ := hu
  unfold maxLen at hcm1 hcm2
  rw [List.length_map] at hcap1 hA1 hcap2 hA2 ⊢
  rw [List.length_map]
  have HC1 := hid hc1
  have HC2 := hid hc2
  have HOK1 := hid hok1
  have HOK2 := hid hok2
  clear hok1 hok2
  clear hc1 hc2
  by_cases hlen : xs.length = ys.length
  · have d1 : ((xs.length : Int) != (ys.length : Int)) = false := by rw [hlen]; simp
    have HLEN := hid hlen
    clear hlen
    go_enter Try.func27, Try.ntmps27
    go_wp2
    go_loopw [13] (fun i wr => ∃ k : Nat, k ≤ xs.length ∧ i = .int .i64 (k : Int) ∧ Hid (xs.take k = ys.take k) ∧ ∃ q, wr = w.drewN q) (fun i _ => xs.length - (Go.RowKit.intOf i).toNat)
    case atStart => exact ⟨0, by omega, rfl, hid (by simp), 0, rfl⟩
    case round =>
      obtain ⟨k, hk, rfl, HT, q, rfl⟩ := hrel
      by_cases hkl : k < xs.length
      · have hl2 : k < ys.length := by have := HLEN.out; omega
        obtain ⟨e1, hb1⟩ := hA1 (by omega)
        obtain ⟨e2, hb2⟩ := hA2 (by omega)
        subst e1 e2
        obtain ⟨x, hx⟩ : ∃ x, xs[k]? = some x := ⟨xs[k], List.getElem?_eq_getElem hkl⟩
        obtain ⟨y, hy⟩ : ∃ y, ys[k]? = some y := ⟨ys[k], List.getElem?_eq_getElem hl2⟩
        have hr1 : ∀ (j : Nat) (z : Value), (cSec x)[j]? = some z → w.cell? ⟨b1, o1 + k * 8 + j, none⟩ = some z := fun j z hz => HC1.out k _ (by rw [List.getElem?_map, hx]; rfl) j z hz
        have hr2 : ∀ (j : Nat) (z : Value), (cSec y)[j]? = some z → w.cell? ⟨b2, o2 + k * 8 + j, none⟩ = some z := fun j z hz => HC2.out k _ (by rw [List.getElem?_map, hy]; rfl) j z hz
        have hnext : x = y → xs.take (k + 1) = ys.take (k + 1) := fun h => by
          obtain ⟨h1, h3⟩ := List.getElem?_eq_some_iff.1 hx
          obtain ⟨h2, h4⟩ := List.getElem?_eq_some_iff.1 hy
          rw [List.take_succ_eq_append_getElem h1, List.take_succ_eq_append_getElem h2, HT.out, h3, h4, h]
        have hdiff : x ≠ y → decide (xs = ys) = false := fun h => decide_eq_false (fun e => by rw [e, hy] at hx; injection hx with hx; exact h hx.symm)
        have hxo := HOK1.out _ (List.mem_of_getElem? hx)
        have hyo := HOK2.out _ (List.mem_of_getElem? hy)
        obtain ⟨x0, x1, x2, x3, x4, x5, x6, x7, rfl⟩ := list8 hxo.1
        obtain ⟨y0, y1, y2, y3, y4, y5, y6, y7, rfl⟩ := list8 hyo.1
        have heq := fun (W : World) => eql_sec [x0, x1, x2, x3, x4, x5, x6, x7] [y0, y1, y2, y3, y4, y5, y6, y7] rfl rfl hxo.2 hyo.2 W
        have q0 : w.cell? ⟨b1, o1 + k * 8 + 0, none⟩ = some (.int .u8 (x0 : Int)) := hr1 0 _ rfl
        have p0 : w.cell? ⟨b2, o2 + k * 8 + 0, none⟩ = some (.int .u8 (y0 : Int)) := hr2 0 _ rfl
        have q1 : w.cell? ⟨b1, o1 + k * 8 + 1, none⟩ = some (.int .u8 (x1 : Int)) := hr1 1 _ rfl
        have p1 : w.cell? ⟨b2, o2 + k * 8 + 1, none⟩ = some (.int .u8 (y1 : Int)) := hr2 1 _ rfl
        have q2 : w.cell? ⟨b1, o1 + k * 8 + 2, none⟩ = some (.int .u8 (x2 : Int)) := hr1 2 _ rfl
        have p2 : w.cell? ⟨b2, o2 + k * 8 + 2, none⟩ = some (.int .u8 (y2 : Int)) := hr2 2 _ rfl
        have q3 : w.cell? ⟨b1, o1 + k * 8 + 3, none⟩ = some (.int .u8 (x3 : Int)) := hr1 3 _ rfl
        have p3 : w.cell? ⟨b2, o2 + k * 8 + 3, none⟩ = some (.int .u8 (y3 : Int)) := hr2 3 _ rfl
        have q4 : w.cell? ⟨b1, o1 + k * 8 + 4, none⟩ = some (.int .u8 (x4 : Int)) := hr1 4 _ rfl
        have p4 : w.cell? ⟨b2, o2 + k * 8 + 4, none⟩ = some (.int .u8 (y4 : Int)) := hr2 4 _ rfl
        have q5 : w.cell? ⟨b1, o1 + k * 8 + 5, none⟩ = some (.int .u8 (x5 : Int)) := hr1 5 _ rfl
        have p5 : w.cell? ⟨b2, o2 + k * 8 + 5, none⟩ = some (.int .u8 (y5 : Int)) := hr2 5 _ rfl
        have q6 : w.cell? ⟨b1, o1 + k * 8 + 6, none⟩ = some (.int .u8 (x6 : Int)) := hr1 6 _ rfl
        have p6 : w.cell? ⟨b2, o2 + k * 8 + 6, none⟩ = some (.int .u8 (y6 : Int)) := hr2 6 _ rfl
        have q7 : w.cell? ⟨b1, o1 + k * 8 + 7, none⟩ = some (.int .u8 (x7 : Int)) := hr1 7 _ rfl
        have p7 : w.cell? ⟨b2, o2 + k * 8 + 7, none⟩ = some (.int .u8 (y7 : Int)) := hr2 7 _ rfl
        rw [Nat.add_zero] at q0 p0
        obtain ⟨bb, hbb⟩ : ∃ bb, decide ([x0, x1, x2, x3, x4, x5, x6, x7] = [y0, y1, y2, y3, y4, y5, y6, y7]) = bb := ⟨_, rfl⟩
        rw [hbb] at heq
        have heq2 : ∀ W : World, (Op.equalIn 10000 58 (.agg #[.int .u8 (x0 : Int), .int .u8 (x1 : Int), .int .u8 (x2 : Int), .int .u8 (x3 : Int), .int .u8 (x4 : Int), .int .u8 (x5 : Int), .int .u8 (x6 : Int), .int .u8 (x7 : Int)]) (.agg #[.int .u8 (y0 : Int), .int .u8 (y1 : Int), .int .u8 (y2 : Int), .int .u8 (y3 : Int), .int .u8 (y4 : Int), .int .u8 (y5 : Int), .int .u8 (y6 : Int), .int .u8 (y7 : Int)])).run Try.prog W = .ok bb W := heq
        clear heq hxo hyo
        clear hr1 hr2 hx hy
        by_cases hxy : bb = true
        · have HN := hid (hnext (of_decide_eq_true (hbb.trans hxy)))
          subst hxy
          clear hbb
          clear hnext hdiff
          go_wp2_with fail
          go_quiet (fail)
          go_wp2
          go_roundw
          case rel => exact ⟨k + 1, by omega, by go_num, HN, _, rfl⟩
          case measure => simp [Go.RowKit.intOf]; omega
        · have HD := hid (hdiff (of_decide_eq_false (hbb.trans (by simpa using hxy))))
          have hxf : bb = false := by simpa using hxy
          subst hxf
          clear hbb hxy
          clear hnext hdiff
          go_wp2_with fail
          go_quiet (fail)
          go_wp2
          go_ret
          exact ⟨(congrArg (fun b => Ending.returned (Value.bool b)) HD.out).symm, q + nq, by simp⟩
      · obtain rfl : k = xs.length := by omega
        have hall : xs = ys := by have h := HT.out; rwa [List.take_length, HLEN.out, List.take_length] at h
        have HD := hid (decide_eq_true hall)
        clear hall
        go_wp2
        go_ret
        exact ⟨(congrArg (fun b => Ending.returned (Value.bool b)) HD.out).symm, _, rfl⟩
  · have d1 : ((xs.length : Int) != (ys.length : Int)) = true := by rw [bne_iff_ne]; omega
    have HD : Hid (decide (xs = ys) = false) := hid (decide_eq_false (fun e => hlen (by rw [e])))
    clear hlen
    go_enter Try.func27, Try.ntmps27
    go_wp2
    go_ret
    exact ⟨(congrArg (fun b => Ending.returned (Value.bool b)) HD.out).symm, 0, rfl⟩
set_option maxHeartbeats 2000000 in
set_option maxRecDepth 100000 in
theorem eqSame_any (xs ys : List (List Nat)) (v u : Value) (w : World) (hv : Arr w v 8 (xs.map cSec)) (hu : Arr w u 8 (ys.map cSec)) (hok1 : Secs xs) (hok2 : Secs ys) :
    Calls Try.prog 64 #[v, u] w (SaysQ (decide (xs = ys)) w) := by
  obtain ⟨C1, k1, rfl, hcap1, hcm1, b1, o1, hA1, hc1⟩ := hv
  obtain ⟨C2, k2, rfl, hcap2, hcm2, b2, o2, hA2, hc2⟩ := hu
  unfold maxLen at hcm1 hcm2
  rw [List.length_map] at hcap1 hA1 hcap2 hA2 ⊢
  rw [List.length_map]
  have HC1 := hid hc1
  have HC2 := hid hc2
  have HOK1 := hid hok1
  have HOK2 := hid hok2
  clear hok1 hok2
  clear hc1 hc2
  by_cases hlen : xs.length = ys.length
  · have d1 : ((xs.length : Int) != (ys.length : Int)) = false := by rw [hlen]; simp
    have HLEN := hid hlen
    clear hlen
    go_enter Try.func64, Try.ntmps64
    go_wp2
    go_loopw [5] (fun i wr => ∃ k : Nat, k ≤ xs.length ∧ i = .int .i64 (k : Int) ∧ Hid (xs.take k = ys.take k) ∧ ∃ q, wr = w.drewN q) (fun i _ => xs.length - (Go.RowKit.intOf i).toNat)
    case atStart => exact ⟨0, by omega, rfl, hid (by simp), 0, rfl⟩
    case round =>
      obtain ⟨k, hk, rfl, HT, q, rfl⟩ := hrel
      by_cases hkl : k < xs.length
      · have hl2 : k < ys.length := by have := HLEN.out; omega
        obtain ⟨e1, hb1⟩ := hA1 (by omega)
        obtain ⟨e2, hb2⟩ := hA2 (by omega)
        subst e1 e2
        obtain ⟨x, hx⟩ : ∃ x, xs[k]? = some x := ⟨xs[k], List.getElem?_eq_getElem hkl⟩
        obtain ⟨y, hy⟩ : ∃ y, ys[k]? = some y := ⟨ys[k], List.getElem?_eq_getElem hl2⟩
        have hr1 : ∀ (j : Nat) (z : Value), (cSec x)[j]? = some z → w.cell? ⟨b1, o1 + k * 8 + j, none⟩ = some z := fun j z hz => HC1.out k _ (by rw [List.getElem?_map, hx]; rfl) j z hz
        have hr2 : ∀ (j : Nat) (z : Value), (cSec y)[j]? = some z → w.cell? ⟨b2, o2 + k * 8 + j, none⟩ = some z := fun j z hz => HC2.out k _ (by rw [List.getElem?_map, hy]; rfl) j z hz
        have hnext : x = y → xs.take (k + 1) = ys.take (k + 1) := fun h => by
          obtain ⟨h1, h3⟩ := List.getElem?_eq_some_iff.1 hx
          obtain ⟨h2, h4⟩ := List.getElem?_eq_some_iff.1 hy
          rw [List.take_succ_eq_append_getElem h1, List.take_succ_eq_append_getElem h2, HT.out, h3, h4, h]
        have hdiff : x ≠ y → decide (xs = ys) = false := fun h => decide_eq_false (fun e => by rw [e, hy] at hx; injection hx with hx; exact h hx.symm)
        have hxo := HOK1.out _ (List.mem_of_getElem? hx)
        have hyo := HOK2.out _ (List.mem_of_getElem? hy)
        obtain ⟨x0, x1, x2, x3, x4, x5, x6, x7, rfl⟩ := list8 hxo.1
        obtain ⟨y0, y1, y2, y3, y4, y5, y6, y7, rfl⟩ := list8 hyo.1
        have heq := fun (W : World) => eql_sec [x0, x1, x2, x3, x4, x5, x6, x7] [y0, y1, y2, y3, y4, y5, y6, y7] rfl rfl hxo.2 hyo.2 W
        have q0 : w.cell? ⟨b1, o1 + k * 8 + 0, none⟩ = some (.int .u8 (x0 : Int)) := hr1 0 _ rfl
        have p0 : w.cell? ⟨b2, o2 + k * 8 + 0, none⟩ = some (.int .u8 (y0 : Int)) := hr2 0 _ rfl
        have q1 : w.cell? ⟨b1, o1 + k * 8 + 1, none⟩ = some (.int .u8 (x1 : Int)) := hr1 1 _ rfl
        have p1 : w.cell? ⟨b2, o2 + k * 8 + 1, none⟩ = some (.int .u8 (y1 : Int)) := hr2 1 _ rfl
        have q2 : w.cell? ⟨b1, o1 + k * 8 + 2, none⟩ = some (.int .u8 (x2 : Int)) := hr1 2 _ rfl
        have p2 : w.cell? ⟨b2, o2 + k * 8 + 2, none⟩ = some (.int .u8 (y2 : Int)) := hr2 2 _ rfl
        have q3 : w.cell? ⟨b1, o1 + k * 8 + 3, none⟩ = some (.int .u8 (x3 : Int)) := hr1 3 _ rfl
        have p3 : w.cell? ⟨b2, o2 + k * 8 + 3, none⟩ = some (.int .u8 (y3 : Int)) := hr2 3 _ rfl
        have q4 : w.cell? ⟨b1, o1 + k * 8 + 4, none⟩ = some (.int .u8 (x4 : Int)) := hr1 4 _ rfl
        have p4 : w.cell? ⟨b2, o2 + k * 8 + 4, none⟩ = some (.int .u8 (y4 : Int)) := hr2 4 _ rfl
        have q5 : w.cell? ⟨b1, o1 + k * 8 + 5, none⟩ = some (.int .u8 (x5 : Int)) := hr1 5 _ rfl
        have p5 : w.cell? ⟨b2, o2 + k * 8 + 5, none⟩ = some (.int .u8 (y5 : Int)) := hr2 5 _ rfl
        have q6 : w.cell? ⟨b1, o1 + k * 8 + 6, none⟩ = some (.int .u8 (x6 : Int)) := hr1 6 _ rfl
        have p6 : w.cell? ⟨b2, o2 + k * 8 + 6, none⟩ = some (.int .u8 (y6 : Int)) := hr2 6 _ rfl
        have q7 : w.cell? ⟨b1, o1 + k * 8 + 7, none⟩ = some (.int .u8 (x7 : Int)) := hr1 7 _ rfl
        have p7 : w.cell? ⟨b2, o2 + k * 8 + 7, none⟩ = some (.int .u8 (y7 : Int)) := hr2 7 _ rfl
        rw [Nat.add_zero] at q0 p0
        obtain ⟨bb, hbb⟩ : ∃ bb, decide ([x0, x1, x2, x3, x4, x5, x6, x7] = [y0, y1, y2, y3, y4, y5, y6, y7]) = bb := ⟨_, rfl⟩
        rw [hbb] at heq
        have heq2 : ∀ W : World, (Op.equalIn 10000 58 (.agg #[.int .u8 (x0 : Int), .int .u8 (x1 : Int), .int .u8 (x2 : Int), .int .u8 (x3 : Int), .int .u8 (x4 : Int), .int .u8 (x5 : Int), .int .u8 (x6 : Int), .int .u8 (x7 : Int)]) (.agg #[.int .u8 (y0 : Int), .int .u8 (y1 : Int), .int .u8 (y2 : Int), .int .u8 (y3 : Int), .int .u8 (y4 : Int), .int .u8 (y5 : Int), .int .u8 (y6 : Int), .int .u8 (y7 : Int)])).run Try.prog W = .ok bb W := heq
        clear heq hxo hyo
        clear hr1 hr2 hx hy
        by_cases hxy : bb = true
        · have HN := hid (hnext (of_decide_eq_true (hbb.trans hxy)))
          subst hxy
          clear hbb
          clear hnext hdiff
          go_wp2_with fail
          go_quiet (fail)
          go_wp2
          go_roundw
          case rel => exact ⟨k + 1, by omega, by go_num, HN, _, rfl⟩
          case measure => simp [Go.RowKit.intOf]; omega
        · have HD := hid (hdiff (of_decide_eq_false (hbb.trans (by simpa using hxy))))
          have hxf : bb = false := by simpa using hxy
          subst hxf
          clear hbb hxy
          clear hnext hdiff
          go_wp2_with fail
          go_quiet (fail)
          go_wp2
          go_ret
          exact ⟨(congrArg (fun b => Ending.returned (Value.bool b)) HD.out).symm, q + nq, by simp⟩
      · obtain rfl : k = xs.length := by omega
        have hall : xs = ys := by have h := HT.out; rwa [List.take_length, HLEN.out, List.take_length] at h
        have HD := hid (decide_eq_true hall)
        clear hall
        go_wp2
        go_ret
        exact ⟨(congrArg (fun b => Ending.returned (Value.bool b)) HD.out).symm, _, rfl⟩
  · have d1 : ((xs.length : Int) != (ys.length : Int)) = true := by rw [bne_iff_ne]; omega
    have HD : Hid (decide (xs = ys) = false) := hid (decide_eq_false (fun e => hlen (by rw [e])))
    clear hlen
    go_enter Try.func64, Try.ntmps64
    go_wp2
    go_ret
    exact ⟨(congrArg (fun b => Ending.returned (Value.bool b)) HD.out).symm, 0, rfl⟩
set_option maxHeartbeats 2000000 in
set_option maxRecDepth 100000 in
theorem eqVol_any (xs ys : List (List Nat)) (v u : Value) (w : World) (hv : Arr w v 8 (xs.map cSec)) (hu : Arr w u 8 (ys.map cSec)) (hok1 : Secs xs) (hok2 : Secs ys) :
    Calls Try.prog 47 #[v, u] w (SaysQ (decide (xs = ys)) w) := by
  obtain ⟨C1, k1, rfl, hcap1, hcm1, b1, o1, hA1, hc1⟩ := hv
  obtain ⟨C2, k2, rfl, hcap2, hcm2, b2, o2, hA2, hc2⟩ := hu
  unfold maxLen at hcm1 hcm2
  rw [List.length_map] at hcap1 hA1 hcap2 hA2 ⊢
  rw [List.length_map]
  have HC1 := hid hc1
  have HC2 := hid hc2
  have HOK1 := hid hok1
  have HOK2 := hid hok2
  clear hok1 hok2
  clear hc1 hc2
  by_cases hlen : xs.length = ys.length
  · have d1 : ((xs.length : Int) != (ys.length : Int)) = false := by rw [hlen]; simp
    have HLEN := hid hlen
    clear hlen
    go_enter Try.func47, Try.ntmps47
    go_wp2
    go_loopw [5] (fun i wr => ∃ k : Nat, k ≤ xs.length ∧ i = .int .i64 (k : Int) ∧ Hid (xs.take k = ys.take k) ∧ ∃ q, wr = w.drewN q) (fun i _ => xs.length - (Go.RowKit.intOf i).toNat)
    case atStart => exact ⟨0, by omega, rfl, hid (by simp), 0, rfl⟩
    case round =>
      obtain ⟨k, hk, rfl, HT, q, rfl⟩ := hrel
      by_cases hkl : k < xs.length
      · have hl2 : k < ys.length := by have := HLEN.out; omega
        obtain ⟨e1, hb1⟩ := hA1 (by omega)
        obtain ⟨e2, hb2⟩ := hA2 (by omega)
        subst e1 e2
        obtain ⟨x, hx⟩ : ∃ x, xs[k]? = some x := ⟨xs[k], List.getElem?_eq_getElem hkl⟩
        obtain ⟨y, hy⟩ : ∃ y, ys[k]? = some y := ⟨ys[k], List.getElem?_eq_getElem hl2⟩
        have hr1 : ∀ (j : Nat) (z : Value), (cSec x)[j]? = some z → w.cell? ⟨b1, o1 + k * 8 + j, none⟩ = some z := fun j z hz => HC1.out k _ (by rw [List.getElem?_map, hx]; rfl) j z hz
        have hr2 : ∀ (j : Nat) (z : Value), (cSec y)[j]? = some z → w.cell? ⟨b2, o2 + k * 8 + j, none⟩ = some z := fun j z hz => HC2.out k _ (by rw [List.getElem?_map, hy]; rfl) j z hz
        have hnext : x = y → xs.take (k + 1) = ys.take (k + 1) := fun h => by
          obtain ⟨h1, h3⟩ := List.getElem?_eq_some_iff.1 hx
          obtain ⟨h2, h4⟩ := List.getElem?_eq_some_iff.1 hy
          rw [List.take_succ_eq_append_getElem h1, List.take_succ_eq_append_getElem h2, HT.out, h3, h4, h]
        have hdiff : x ≠ y → decide (xs = ys) = false := fun h => decide_eq_false (fun e => by rw [e, hy] at hx; injection hx with hx; exact h hx.symm)
        have hxo := HOK1.out _ (List.mem_of_getElem? hx)
        have hyo := HOK2.out _ (List.mem_of_getElem? hy)
        obtain ⟨x0, x1, x2, x3, x4, x5, x6, x7, rfl⟩ := list8 hxo.1
        obtain ⟨y0, y1, y2, y3, y4, y5, y6, y7, rfl⟩ := list8 hyo.1
        have heq := fun (W : World) => eql_sec [x0, x1, x2, x3, x4, x5, x6, x7] [y0, y1, y2, y3, y4, y5, y6, y7] rfl rfl hxo.2 hyo.2 W
        have q0 : w.cell? ⟨b1, o1 + k * 8 + 0, none⟩ = some (.int .u8 (x0 : Int)) := hr1 0 _ rfl
        have p0 : w.cell? ⟨b2, o2 + k * 8 + 0, none⟩ = some (.int .u8 (y0 : Int)) := hr2 0 _ rfl
        have q1 : w.cell? ⟨b1, o1 + k * 8 + 1, none⟩ = some (.int .u8 (x1 : Int)) := hr1 1 _ rfl
        have p1 : w.cell? ⟨b2, o2 + k * 8 + 1, none⟩ = some (.int .u8 (y1 : Int)) := hr2 1 _ rfl
        have q2 : w.cell? ⟨b1, o1 + k * 8 + 2, none⟩ = some (.int .u8 (x2 : Int)) := hr1 2 _ rfl
        have p2 : w.cell? ⟨b2, o2 + k * 8 + 2, none⟩ = some (.int .u8 (y2 : Int)) := hr2 2 _ rfl
        have q3 : w.cell? ⟨b1, o1 + k * 8 + 3, none⟩ = some (.int .u8 (x3 : Int)) := hr1 3 _ rfl
        have p3 : w.cell? ⟨b2, o2 + k * 8 + 3, none⟩ = some (.int .u8 (y3 : Int)) := hr2 3 _ rfl
        have q4 : w.cell? ⟨b1, o1 + k * 8 + 4, none⟩ = some (.int .u8 (x4 : Int)) := hr1 4 _ rfl
        have p4 : w.cell? ⟨b2, o2 + k * 8 + 4, none⟩ = some (.int .u8 (y4 : Int)) := hr2 4 _ rfl
        have q5 : w.cell? ⟨b1, o1 + k * 8 + 5, none⟩ = some (.int .u8 (x5 : Int)) := hr1 5 _ rfl
        have p5 : w.cell? ⟨b2, o2 + k * 8 + 5, none⟩ = some (.int .u8 (y5 : Int)) := hr2 5 _ rfl
        have q6 : w.cell? ⟨b1, o1 + k * 8 + 6, none⟩ = some (.int .u8 (x6 : Int)) := hr1 6 _ rfl
        have p6 : w.cell? ⟨b2, o2 + k * 8 + 6, none⟩ = some (.int .u8 (y6 : Int)) := hr2 6 _ rfl
        have q7 : w.cell? ⟨b1, o1 + k * 8 + 7, none⟩ = some (.int .u8 (x7 : Int)) := hr1 7 _ rfl
        have p7 : w.cell? ⟨b2, o2 + k * 8 + 7, none⟩ = some (.int .u8 (y7 : Int)) := hr2 7 _ rfl
        rw [Nat.add_zero] at q0 p0
        obtain ⟨bb, hbb⟩ : ∃ bb, decide ([x0, x1, x2, x3, x4, x5, x6, x7] = [y0, y1, y2, y3, y4, y5, y6, y7]) = bb := ⟨_, rfl⟩
        rw [hbb] at heq
        have heq2 : ∀ W : World, (Op.equalIn 10000 58 (.agg #[.int .u8 (x0 : Int), .int .u8 (x1 : Int), .int .u8 (x2 : Int), .int .u8 (x3 : Int), .int .u8 (x4 : Int), .int .u8 (x5 : Int), .int .u8 (x6 : Int), .int .u8 (x7 : Int)]) (.agg #[.int .u8 (y0 : Int), .int .u8 (y1 : Int), .int .u8 (y2 : Int), .int .u8 (y3 : Int), .int .u8 (y4 : Int), .int .u8 (y5 : Int), .int .u8 (y6 : Int), .int .u8 (y7 : Int)])).run Try.prog W = .ok bb W := heq
        clear heq hxo hyo
        clear hr1 hr2 hx hy
        by_cases hxy : bb = true
        · have HN := hid (hnext (of_decide_eq_true (hbb.trans hxy)))
          subst hxy
          clear hbb
          clear hnext hdiff
          go_wp2_with fail
          go_quiet (fail)
          go_wp2
          go_roundw
          case rel => exact ⟨k + 1, by omega, by go_num, HN, _, rfl⟩
          case measure => simp [Go.RowKit.intOf]; omega
        · have HD := hid (hdiff (of_decide_eq_false (hbb.trans (by simpa using hxy))))
          have hxf : bb = false := by simpa using hxy
          subst hxf
          clear hbb hxy
          clear hnext hdiff
          go_wp2_with fail
          go_quiet (fail)
          go_wp2
          go_ret
          exact ⟨(congrArg (fun b => Ending.returned (Value.bool b)) HD.out).symm, q + nq, by simp⟩
      · obtain rfl : k = xs.length := by omega
        have hall : xs = ys := by have h := HT.out; rwa [List.take_length, HLEN.out, List.take_length] at h
        have HD := hid (decide_eq_true hall)
        clear hall
        go_wp2
        go_ret
        exact ⟨(congrArg (fun b => Ending.returned (Value.bool b)) HD.out).symm, _, rfl⟩
  · have d1 : ((xs.length : Int) != (ys.length : Int)) = true := by rw [bne_iff_ne]; omega
    have HD : Hid (decide (xs = ys) = false) := hid (decide_eq_false (fun e => hlen (by rw [e])))
    clear hlen
    go_enter Try.func47, Try.ntmps47
    go_wp2
    go_ret
    exact ⟨(congrArg (fun b => Ending.returned (Value.bool b)) HD.out).symm, 0, rfl⟩
end Go.Proofs.Ytbcnikmhodkbfaa
