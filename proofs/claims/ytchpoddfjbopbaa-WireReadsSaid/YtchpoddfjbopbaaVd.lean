/- slices.Equal of numbers, sectors, extents; SameSectors, SameWrites. -/
import Derived.Test.YtchpoddfjbopbaaVc
import Derived.Stop.BytesEq
namespace Go.Proofs.Ytchpoddfjbopbaa
open Go.RowKit Go.Lib

def SaysQ (b : Bool) (w : World) (e : Ending) (w' : World) : Prop := e = .returned (.bool b) ∧ ∃ m, w' = w.drewN m
theorem saysQ_B {b : Bool} {w w' : World} {e : Ending} (h : SaysQ b w e w') : SaysB b w e w' := by
  obtain ⟨rfl, m, rfl⟩ := h
  exact ⟨rfl, rfl, rfl, rfl, Nat.le_refl _, fun _ _ => rfl⟩
theorem cell_byte {x : Nat} (h : x < 256) : Extern.Stop.cell (UInt8.ofNat x) = byteV x := by
  unfold Extern.Stop.cell byteV
  rw [UInt8.toNat_ofNat', Nat.mod_eq_of_lt h]
  rfl
theorem map_cells {l : List Nat} (h : B8 l) : (l.map UInt8.ofNat).map Extern.Stop.cell = l.map byteV := by
  rw [List.map_map]
  exact List.map_congr_left (fun x hx => cell_byte (h x hx))
theorem size5 (w : World) : (sizeOf 5).run Try.prog w = .ok 1 w := by kernel_rfl
theorem map_u8_inj {l m : List Nat} (hl : B8 l) (hm : B8 m) : (l.map UInt8.ofNat == m.map UInt8.ofNat) = (l == m) := by
  rw [Bool.eq_iff_iff, beq_iff_eq, beq_iff_eq]
  refine ⟨fun h => ?_, fun h => by rw [h]⟩
  have h2 := congrArg (List.map UInt8.toNat) h
  rw [List.map_map, List.map_map] at h2
  have e : ∀ k : List Nat, B8 k → k.map (UInt8.toNat ∘ UInt8.ofNat) = k := fun k hk => by
    conv => rhs; rw [← List.map_id k]
    exact List.map_congr_left (fun x hx => by
      show (UInt8.ofNat x).toNat = x
      rw [UInt8.toNat_ofNat', Nat.mod_eq_of_lt (hk x hx)])
  rw [e l hl, e m hm] at h2
  exact h2
theorem eql_bytes (t n : Nat) (ht : Try.prog.underlying t = some (.array n 5)) (l m : List Nat) (hl : B8 l) (hm : B8 m) (h1 : l.length = n) (h2 : m.length = n) (w : World) :
    (Op.equalIn 10000 t (.agg (l.map byteV).toArray) (.agg (m.map byteV).toArray)).run Try.prog w = .ok (l == m) w := by
  have h := run_equalIn_bytes (P := Try.prog) w 9998 t 5 n ht Try.underlying5 size5 (l.map UInt8.ofNat) (m.map UInt8.ofNat) (by rw [List.length_map]; exact h1) (by rw [List.length_map]; exact h2)
  rw [map_cells hl, map_cells hm, map_u8_inj hl hm] at h
  exact h
theorem eql_ext (a b c d : Int) (W : World) : (Op.equalIn 10000 66 (.agg #[.int .i64 a, .int .i64 b]) (.agg #[.int .i64 c, .int .i64 d])).run Try.prog W = .ok (decide (((a, b) : Int × Int) = (c, d))) W := by
  rw [run_equalIn_struct W 9999 66 _ _ und66 (by kernel_rfl)]
  have hf : (Try.prog.fieldsOf 66).toList = [{ name := "Start", type := 3, offset := 0, embedded := false, tag := "", pkgPath := "", byteOffset := 0 }, { name := "Count", type := 3, offset := 1, embedded := false, tag := "", pkgPath := "", byteOffset := 8 }] := by kernel_rfl
  rw [hf]
  simp [Op.eqFields, go_sem]
  by_cases h1 : a = c <;> by_cases h2 : b = d <;> simp [h1, h2]
theorem eql_sec (x y : List Nat) (hx : x.length = 8) (hy : y.length = 8) (h8 : B8 x) (h8' : B8 y) (W : World) : (Op.equalIn 10000 59 (.agg (cSec x).toArray) (.agg (cSec y).toArray)).run Try.prog W = .ok (decide (x = y)) W := by
  have h := eql_bytes 59 8 Try.underlying59 x y h8 h8' hx hy W
  have e : (x == y) = decide (x = y) := by rw [Bool.eq_iff_iff]; simp
  rw [e] at h
  exact h

set_option maxHeartbeats 2000000 in
set_option maxRecDepth 100000 in
theorem eqInts_any (xs ys : List Int) (v u : Value) (w : World) (hv : Arr w v 1 (xs.map cInt)) (hu : Arr w u 1 (ys.map cInt)) :
    Calls Try.prog 32 #[v, u] w (SaysQ (decide (xs = ys)) w) := by
  obtain ⟨C1, k1, rfl, hcap1, hcm1, b1, o1, hA1, hc1⟩ := hv
  obtain ⟨C2, k2, rfl, hcap2, hcm2, b2, o2, hA2, hc2⟩ := hu
  unfold maxLen at hcm1 hcm2
  rw [List.length_map] at hcap1 hA1 hcap2 hA2 ⊢
  rw [List.length_map]
  have HC1 := hid hc1
  have HC2 := hid hc2
  clear hc1 hc2
  by_cases hlen : xs.length = ys.length
  · have d1 : ((xs.length : Int) != (ys.length : Int)) = false := by rw [hlen]; simp
    have HLEN := hid hlen
    clear hlen
    go_enter Try.func32, Try.ntmps32
    go_wp2
    go_loopw [13] (fun i wr => ∃ k : Nat, k ≤ xs.length ∧ i = .int .i64 (k : Int) ∧ Hid (xs.take k = ys.take k) ∧ ∃ q, wr = w.drewN q) (fun i _ => xs.length - (Go.RowKit.intOf i).toNat)
    case atStart => exact ⟨0, by omega, rfl, hid (by simp), 0, rfl⟩
    case round =>
      obtain ⟨k, hk, rfl, HT, q, rfl⟩ := hrel
      by_cases hkl : k < xs.length
      · have hl2 : k < ys.length := by have := HLEN.out; omega
        obtain ⟨e1, hb1⟩ := hA1 (by omega)
        obtain ⟨e2, hb2⟩ := hA2 (by omega)
        subst e1 e2
        obtain ⟨x, hx⟩ : ∃ x, xs[k]? = some x := ⟨xs[k], List.getElem?_eq_getElem hkl⟩
        obtain ⟨y, hy⟩ : ∃ y, ys[k]? = some y := ⟨ys[k], List.getElem?_eq_getElem hl2⟩
        have hr1 : ∀ (j : Nat) (z : Value), (cInt x)[j]? = some z → w.cell? ⟨b1, o1 + k * 1 + j, none⟩ = some z := fun j z hz => HC1.out k _ (by rw [List.getElem?_map, hx]; rfl) j z hz
        have hr2 : ∀ (j : Nat) (z : Value), (cInt y)[j]? = some z → w.cell? ⟨b2, o2 + k * 1 + j, none⟩ = some z := fun j z hz => HC2.out k _ (by rw [List.getElem?_map, hy]; rfl) j z hz
        have hnext : x = y → xs.take (k + 1) = ys.take (k + 1) := fun h => by
          obtain ⟨h1, h3⟩ := List.getElem?_eq_some_iff.1 hx
          obtain ⟨h2, h4⟩ := List.getElem?_eq_some_iff.1 hy
          rw [List.take_succ_eq_append_getElem h1, List.take_succ_eq_append_getElem h2, HT.out, h3, h4, h]
        have hdiff : x ≠ y → decide (xs = ys) = false := fun h => decide_eq_false (fun e => by rw [e, hy] at hx; injection hx with hx; exact h hx.symm)
        have q1 := hr1 0 _ rfl
        have q2 := hr2 0 _ rfl
        rw [Nat.add_zero, Nat.mul_one] at q1 q2
        clear hr1 hr2 hx hy
        by_cases hxy : x = y
        · have HN := hid (hnext hxy)
          have d2 : (x != y) = false := by simp [hxy]
          clear hxy
          clear hnext hdiff
          go_wp2_with fail
          go_quiet (fail)
          go_wp2
          go_roundw
          case rel => exact ⟨k + 1, by omega, by go_num, HN, _, rfl⟩
          case measure => simp [Go.RowKit.intOf]; omega
        · have HD := hid (hdiff hxy)
          have d2 : (x != y) = true := by simp [hxy]
          clear hxy
          clear hnext hdiff
          go_wp2_with fail
          go_quiet (fail)
          go_wp2
          go_ret
          exact ⟨(congrArg (fun b => Ending.returned (Value.bool b)) HD.out).symm, q + nq, by simp⟩
      · obtain rfl : k = xs.length := by omega
        have hall : xs = ys := by have h := HT.out; rwa [List.take_length, HLEN.out, List.take_length] at h
        have HD := hid (decide_eq_true hall)
        clear hall
        go_wp2
        go_ret
        exact ⟨(congrArg (fun b => Ending.returned (Value.bool b)) HD.out).symm, _, rfl⟩
  · have d1 : ((xs.length : Int) != (ys.length : Int)) = true := by rw [bne_iff_ne]; omega
    have HD : Hid (decide (xs = ys) = false) := hid (decide_eq_false (fun e => hlen (by rw [e])))
    clear hlen
    go_enter Try.func32, Try.ntmps32
    go_wp2
    go_ret
    exact ⟨(congrArg (fun b => Ending.returned (Value.bool b)) HD.out).symm, 0, rfl⟩

set_option maxHeartbeats 2000000 in
set_option maxRecDepth 100000 in
theorem eqExts_any (xs ys : List (Int × Int)) (v u : Value) (w : World) (hv : Arr w v 2 (xs.map cExt)) (hu : Arr w u 2 (ys.map cExt)) :
    Calls Try.prog 38 #[v, u] w (SaysQ (decide (xs = ys)) w) := by
  obtain ⟨C1, k1, rfl, hcap1, hcm1, b1, o1, hA1, hc1⟩ := hv
  obtain ⟨C2, k2, rfl, hcap2, hcm2, b2, o2, hA2, hc2⟩ := hu
  unfold maxLen at hcm1 hcm2
  rw [List.length_map] at hcap1 hA1 hcap2 hA2 ⊢
  rw [List.length_map]
  have HC1 := hid hc1
  have HC2 := hid hc2
  clear hc1 hc2
  by_cases hlen : xs.length = ys.length
  · have d1 : ((xs.length : Int) != (ys.length : Int)) = false := by rw [hlen]; simp
    have HLEN := hid hlen
    clear hlen
    go_enter Try.func38, Try.ntmps38
    go_wp2
    go_loopw [13] (fun i wr => ∃ k : Nat, k ≤ xs.length ∧ i = .int .i64 (k : Int) ∧ Hid (xs.take k = ys.take k) ∧ ∃ q, wr = w.drewN q) (fun i _ => xs.length - (Go.RowKit.intOf i).toNat)
    case atStart => exact ⟨0, by omega, rfl, hid (by simp), 0, rfl⟩
    case round =>
      obtain ⟨k, hk, rfl, HT, q, rfl⟩ := hrel
      by_cases hkl : k < xs.length
      · have hl2 : k < ys.length := by have := HLEN.out; omega
        obtain ⟨e1, hb1⟩ := hA1 (by omega)
        obtain ⟨e2, hb2⟩ := hA2 (by omega)
        subst e1 e2
        obtain ⟨x, hx⟩ : ∃ x, xs[k]? = some x := ⟨xs[k], List.getElem?_eq_getElem hkl⟩
        obtain ⟨y, hy⟩ : ∃ y, ys[k]? = some y := ⟨ys[k], List.getElem?_eq_getElem hl2⟩
        have hr1 : ∀ (j : Nat) (z : Value), (cExt x)[j]? = some z → w.cell? ⟨b1, o1 + k * 2 + j, none⟩ = some z := fun j z hz => HC1.out k _ (by rw [List.getElem?_map, hx]; rfl) j z hz
        have hr2 : ∀ (j : Nat) (z : Value), (cExt y)[j]? = some z → w.cell? ⟨b2, o2 + k * 2 + j, none⟩ = some z := fun j z hz => HC2.out k _ (by rw [List.getElem?_map, hy]; rfl) j z hz
        have hnext : x = y → xs.take (k + 1) = ys.take (k + 1) := fun h => by
          obtain ⟨h1, h3⟩ := List.getElem?_eq_some_iff.1 hx
          obtain ⟨h2, h4⟩ := List.getElem?_eq_some_iff.1 hy
          rw [List.take_succ_eq_append_getElem h1, List.take_succ_eq_append_getElem h2, HT.out, h3, h4, h]
        have hdiff : x ≠ y → decide (xs = ys) = false := fun h => decide_eq_false (fun e => by rw [e, hy] at hx; injection hx with hx; exact h hx.symm)
        obtain ⟨x0, x1⟩ := x
        obtain ⟨y0, y1⟩ := y
        have q0 : w.cell? ⟨b1, o1 + k * 2, none⟩ = some (.int .i64 x0) := hr1 0 _ rfl
        have q1 : w.cell? ⟨b1, o1 + k * 2 + 1, none⟩ = some (.int .i64 x1) := hr1 1 _ rfl
        have p0 : w.cell? ⟨b2, o2 + k * 2, none⟩ = some (.int .i64 y0) := hr2 0 _ rfl
        have p1 : w.cell? ⟨b2, o2 + k * 2 + 1, none⟩ = some (.int .i64 y1) := hr2 1 _ rfl
        have heq := fun (W : World) => eql_ext x0 x1 y0 y1 W
        obtain ⟨bb, hbb⟩ : ∃ bb, decide (((x0, x1) : Int × Int) = (y0, y1)) = bb := ⟨_, rfl⟩
        rw [hbb] at heq
        clear hr1 hr2 hx hy
        by_cases hxy : bb = true
        · have HN := hid (hnext (of_decide_eq_true (hbb.trans hxy)))
          subst hxy
          clear hbb
          clear hnext hdiff
          go_wp2_with fail
          go_quiet (fail)
          go_wp2
          go_roundw
          case rel => exact ⟨k + 1, by omega, by go_num, HN, _, rfl⟩
          case measure => simp [Go.RowKit.intOf]; omega
        · have HD := hid (hdiff (of_decide_eq_false (hbb.trans (by simpa using hxy))))
          have hxf : bb = false := by simpa using hxy
          subst hxf
          clear hbb hxy
          clear hnext hdiff
          go_wp2_with fail
          go_quiet (fail)
          go_wp2
          go_ret
          exact ⟨(congrArg (fun b => Ending.returned (Value.bool b)) HD.out).symm, q + nq, by simp⟩
      · obtain rfl : k = xs.length := by omega
        have hall : xs = ys := by have h := HT.out; rwa [List.take_length, HLEN.out, List.take_length] at h
        have HD := hid (decide_eq_true hall)
        clear hall
        go_wp2
        go_ret
        exact ⟨(congrArg (fun b => Ending.returned (Value.bool b)) HD.out).symm, _, rfl⟩
  · have d1 : ((xs.length : Int) != (ys.length : Int)) = true := by rw [bne_iff_ne]; omega
    have HD : Hid (decide (xs = ys) = false) := hid (decide_eq_false (fun e => hlen (by rw [e])))
    clear hlen
    go_enter Try.func38, Try.ntmps38
    go_wp2
    go_ret
    exact ⟨(congrArg (fun b => Ending.returned (Value.bool b)) HD.out).symm, 0, rfl⟩

set_option maxHeartbeats 2000000 in
set_option maxRecDepth 100000 in
theorem eqSecs_any (xs ys : List (List Nat)) (v u : Value) (w : World) (hv : Arr w v 8 (xs.map cSec)) (hu : Arr w u 8 (ys.map cSec)) (hok1 : Secs xs) (hok2 : Secs ys) :
    Calls Try.prog 35 #[v, u] w (SaysQ (decide (xs = ys)) w) := by
  obtain ⟨C1, k1, rfl, hcap1, hcm1, b1, o1, hA1, hc1⟩ := hv
  obtain ⟨C2, k2, rfl, hcap2, hcm2, b2, o2, hA2, hc2⟩ := hu
  unfold maxLen at hcm1 hcm2
  rw [List.length_map] at hcap1 hA1 hcap2 hA2 ⊢
  rw [List.length_map]
  have HC1 := hid hc1
  have HC2 := hid hc2
  have HOK1 := hid hok1
  have HOK2 := hid hok2
  clear hok1 hok2
  clear hc1 hc2
  by_cases hlen : xs.length = ys.length
  · have d1 : ((xs.length : Int) != (ys.length : Int)) = false := by rw [hlen]; simp
    have HLEN := hid hlen
    clear hlen
    go_enter Try.func35, Try.ntmps35
    go_wp2
    go_loopw [13] (fun i wr => ∃ k : Nat, k ≤ xs.length ∧ i = .int .i64 (k : Int) ∧ Hid (xs.take k = ys.take k) ∧ ∃ q, wr = w.drewN q) (fun i _ => xs.length - (Go.RowKit.intOf i).toNat)
    case atStart => exact ⟨0, by omega, rfl, hid (by simp), 0, rfl⟩
    case round =>
      obtain ⟨k, hk, rfl, HT, q, rfl⟩ := hrel
      by_cases hkl : k < xs.length
      · have hl2 : k < ys.length := by have := HLEN.out; omega
        obtain ⟨e1, hb1⟩ := hA1 (by omega)
        obtain ⟨e2, hb2⟩ := hA2 (by omega)
        subst e1 e2
        obtain ⟨x, hx⟩ : ∃ x, xs[k]? = some x := ⟨xs[k], List.getElem?_eq_getElem hkl⟩
        obtain ⟨y, hy⟩ : ∃ y, ys[k]? = some y := ⟨ys[k], List.getElem?_eq_getElem hl2⟩
        have hr1 : ∀ (j : Nat) (z : Value), (cSec x)[j]? = some z → w.cell? ⟨b1, o1 + k * 8 + j, none⟩ = some z := fun j z hz => HC1.out k _ (by rw [List.getElem?_map, hx]; rfl) j z hz
        have hr2 : ∀ (j : Nat) (z : Value), (cSec y)[j]? = some z → w.cell? ⟨b2, o2 + k * 8 + j, none⟩ = some z := fun j z hz => HC2.out k _ (by rw [List.getElem?_map, hy]; rfl) j z hz
        have hnext : x = y → xs.take (k + 1) = ys.take (k + 1) := fun h => by
          obtain ⟨h1, h3⟩ := List.getElem?_eq_some_iff.1 hx
          obtain ⟨h2, h4⟩ := List.getElem?_eq_some_iff.1 hy
          rw [List.take_succ_eq_append_getElem h1, List.take_succ_eq_append_getElem h2, HT.out, h3, h4, h]
        have hdiff : x ≠ y → decide (xs = ys) = false := fun h => decide_eq_false (fun e => by rw [e, hy] at hx; injection hx with hx; exact h hx.symm)
        have hxo := HOK1.out _ (List.mem_of_getElem? hx)
        have hyo := HOK2.out _ (List.mem_of_getElem? hy)
        obtain ⟨x0, x1, x2, x3, x4, x5, x6, x7, rfl⟩ := list8 hxo.1
        obtain ⟨y0, y1, y2, y3, y4, y5, y6, y7, rfl⟩ := list8 hyo.1
        have heq := fun (W : World) => eql_sec [x0, x1, x2, x3, x4, x5, x6, x7] [y0, y1, y2, y3, y4, y5, y6, y7] rfl rfl hxo.2 hyo.2 W
        have q0 : w.cell? ⟨b1, o1 + k * 8 + 0, none⟩ = some (.int .u8 (x0 : Int)) := hr1 0 _ rfl
        have p0 : w.cell? ⟨b2, o2 + k * 8 + 0, none⟩ = some (.int .u8 (y0 : Int)) := hr2 0 _ rfl
        have q1 : w.cell? ⟨b1, o1 + k * 8 + 1, none⟩ = some (.int .u8 (x1 : Int)) := hr1 1 _ rfl
        have p1 : w.cell? ⟨b2, o2 + k * 8 + 1, none⟩ = some (.int .u8 (y1 : Int)) := hr2 1 _ rfl
        have q2 : w.cell? ⟨b1, o1 + k * 8 + 2, none⟩ = some (.int .u8 (x2 : Int)) := hr1 2 _ rfl
        have p2 : w.cell? ⟨b2, o2 + k * 8 + 2, none⟩ = some (.int .u8 (y2 : Int)) := hr2 2 _ rfl
        have q3 : w.cell? ⟨b1, o1 + k * 8 + 3, none⟩ = some (.int .u8 (x3 : Int)) := hr1 3 _ rfl
        have p3 : w.cell? ⟨b2, o2 + k * 8 + 3, none⟩ = some (.int .u8 (y3 : Int)) := hr2 3 _ rfl
        have q4 : w.cell? ⟨b1, o1 + k * 8 + 4, none⟩ = some (.int .u8 (x4 : Int)) := hr1 4 _ rfl
        have p4 : w.cell? ⟨b2, o2 + k * 8 + 4, none⟩ = some (.int .u8 (y4 : Int)) := hr2 4 _ rfl
        have q5 : w.cell? ⟨b1, o1 + k * 8 + 5, none⟩ = some (.int .u8 (x5 : Int)) := hr1 5 _ rfl
        have p5 : w.cell? ⟨b2, o2 + k * 8 + 5, none⟩ = some (.int .u8 (y5 : Int)) := hr2 5 _ rfl
        have q6 : w.cell? ⟨b1, o1 + k * 8 + 6, none⟩ = some (.int .u8 (x6 : Int)) := hr1 6 _ rfl
        have p6 : w.cell? ⟨b2, o2 + k * 8 + 6, none⟩ = some (.int .u8 (y6 : Int)) := hr2 6 _ rfl
        have q7 : w.cell? ⟨b1, o1 + k * 8 + 7, none⟩ = some (.int .u8 (x7 : Int)) := hr1 7 _ rfl
        have p7 : w.cell? ⟨b2, o2 + k * 8 + 7, none⟩ = some (.int .u8 (y7 : Int)) := hr2 7 _ rfl
        rw [Nat.add_zero] at q0 p0
        obtain ⟨bb, hbb⟩ : ∃ bb, decide ([x0, x1, x2, x3, x4, x5, x6, x7] = [y0, y1, y2, y3, y4, y5, y6, y7]) = bb := ⟨_, rfl⟩
        rw [hbb] at heq
        have heq2 : ∀ W : World, (Op.equalIn 10000 59 (.agg #[.int .u8 (x0 : Int), .int .u8 (x1 : Int), .int .u8 (x2 : Int), .int .u8 (x3 : Int), .int .u8 (x4 : Int), .int .u8 (x5 : Int), .int .u8 (x6 : Int), .int .u8 (x7 : Int)]) (.agg #[.int .u8 (y0 : Int), .int .u8 (y1 : Int), .int .u8 (y2 : Int), .int .u8 (y3 : Int), .int .u8 (y4 : Int), .int .u8 (y5 : Int), .int .u8 (y6 : Int), .int .u8 (y7 : Int)])).run Try.prog W = .ok bb W := heq
        clear heq hxo hyo
        clear hr1 hr2 hx hy
        by_cases hxy : bb = true
        · have HN := hid (hnext (of_decide_eq_true (hbb.trans hxy)))
          subst hxy
          clear hbb
          clear hnext hdiff
          go_wp2_with fail
          go_quiet (fail)
          go_wp2
          go_roundw
          case rel => exact ⟨k + 1, by omega, by go_num, HN, _, rfl⟩
          case measure => simp [Go.RowKit.intOf]; omega
        · have HD := hid (hdiff (of_decide_eq_false (hbb.trans (by simpa using hxy))))
          have hxf : bb = false := by simpa using hxy
          subst hxf
          clear hbb hxy
          clear hnext hdiff
          go_wp2_with fail
          go_quiet (fail)
          go_wp2
          go_ret
          exact ⟨(congrArg (fun b => Ending.returned (Value.bool b)) HD.out).symm, q + nq, by simp⟩
      · obtain rfl : k = xs.length := by omega
        have hall : xs = ys := by have h := HT.out; rwa [List.take_length, HLEN.out, List.take_length] at h
        have HD := hid (decide_eq_true hall)
        clear hall
        go_wp2
        go_ret
        exact ⟨(congrArg (fun b => Ending.returned (Value.bool b)) HD.out).symm, _, rfl⟩
  · have d1 : ((xs.length : Int) != (ys.length : Int)) = true := by rw [bne_iff_ne]; omega
    have HD : Hid (decide (xs = ys) = false) := hid (decide_eq_false (fun e => hlen (by rw [e])))
    clear hlen
    go_enter Try.func35, Try.ntmps35
    go_wp2
    go_ret
    exact ⟨(congrArg (fun b => Ending.returned (Value.bool b)) HD.out).symm, 0, rfl⟩

set_option maxHeartbeats 2000000 in
set_option maxRecDepth 100000 in
theorem eqSame_any (xs ys : List (List Nat)) (v u : Value) (w : World) (hv : Arr w v 8 (xs.map cSec)) (hu : Arr w u 8 (ys.map cSec)) (hok1 : Secs xs) (hok2 : Secs ys) :
    Calls Try.prog 77 #[v, u] w (SaysQ (decide (xs = ys)) w) := by
  obtain ⟨C1, k1, rfl, hcap1, hcm1, b1, o1, hA1, hc1⟩ := hv
  obtain ⟨C2, k2, rfl, hcap2, hcm2, b2, o2, hA2, hc2⟩ := hu
  unfold maxLen at hcm1 hcm2
  rw [List.length_map] at hcap1 hA1 hcap2 hA2 ⊢
  rw [List.length_map]
  have HC1 := hid hc1
  have HC2 := hid hc2
  have HOK1 := hid hok1
  have HOK2 := hid hok2
  clear hok1 hok2
  clear hc1 hc2
  by_cases hlen : xs.length = ys.length
  · have d1 : ((xs.length : Int) != (ys.length : Int)) = false := by rw [hlen]; simp
    have HLEN := hid hlen
    clear hlen
    go_enter Try.func77, Try.ntmps77
    go_wp2
    go_loopw [5] (fun i wr => ∃ k : Nat, k ≤ xs.length ∧ i = .int .i64 (k : Int) ∧ Hid (xs.take k = ys.take k) ∧ ∃ q, wr = w.drewN q) (fun i _ => xs.length - (Go.RowKit.intOf i).toNat)
    case atStart => exact ⟨0, by omega, rfl, hid (by simp), 0, rfl⟩
    case round =>
      obtain ⟨k, hk, rfl, HT, q, rfl⟩ := hrel
      by_cases hkl : k < xs.length
      · have hl2 : k < ys.length := by have := HLEN.out; omega
        obtain ⟨e1, hb1⟩ := hA1 (by omega)
        obtain ⟨e2, hb2⟩ := hA2 (by omega)
        subst e1 e2
        obtain ⟨x, hx⟩ : ∃ x, xs[k]? = some x := ⟨xs[k], List.getElem?_eq_getElem hkl⟩
        obtain ⟨y, hy⟩ : ∃ y, ys[k]? = some y := ⟨ys[k], List.getElem?_eq_getElem hl2⟩
        have hr1 : ∀ (j : Nat) (z : Value), (cSec x)[j]? = some z → w.cell? ⟨b1, o1 + k * 8 + j, none⟩ = some z := fun j z hz => HC1.out k _ (by rw [List.getElem?_map, hx]; rfl) j z hz
        have hr2 : ∀ (j : Nat) (z : Value), (cSec y)[j]? = some z → w.cell? ⟨b2, o2 + k * 8 + j, none⟩ = some z := fun j z hz => HC2.out k _ (by rw [List.getElem?_map, hy]; rfl) j z hz
        have hnext : x = y → xs.take (k + 1) = ys.take (k + 1) := fun h => by
          obtain ⟨h1, h3⟩ := List.getElem?_eq_some_iff.1 hx
          obtain ⟨h2, h4⟩ := List.getElem?_eq_some_iff.1 hy
          rw [List.take_succ_eq_append_getElem h1, List.take_succ_eq_append_getElem h2, HT.out, h3, h4, h]
        have hdiff : x ≠ y → decide (xs = ys) = false := fun h => decide_eq_false (fun e => by rw [e, hy] at hx; injection hx with hx; exact h hx.symm)
        have hxo := HOK1.out _ (List.mem_of_getElem? hx)
        have hyo := HOK2.out _ (List.mem_of_getElem? hy)
        obtain ⟨x0, x1, x2, x3, x4, x5, x6, x7, rfl⟩ := list8 hxo.1
        obtain ⟨y0, y1, y2, y3, y4, y5, y6, y7, rfl⟩ := list8 hyo.1
        have heq := fun (W : World) => eql_sec [x0, x1, x2, x3, x4, x5, x6, x7] [y0, y1, y2, y3, y4, y5, y6, y7] rfl rfl hxo.2 hyo.2 W
        have q0 : w.cell? ⟨b1, o1 + k * 8 + 0, none⟩ = some (.int .u8 (x0 : Int)) := hr1 0 _ rfl
        have p0 : w.cell? ⟨b2, o2 + k * 8 + 0, none⟩ = some (.int .u8 (y0 : Int)) := hr2 0 _ rfl
        have q1 : w.cell? ⟨b1, o1 + k * 8 + 1, none⟩ = some (.int .u8 (x1 : Int)) := hr1 1 _ rfl
        have p1 : w.cell? ⟨b2, o2 + k * 8 + 1, none⟩ = some (.int .u8 (y1 : Int)) := hr2 1 _ rfl
        have q2 : w.cell? ⟨b1, o1 + k * 8 + 2, none⟩ = some (.int .u8 (x2 : Int)) := hr1 2 _ rfl
        have p2 : w.cell? ⟨b2, o2 + k * 8 + 2, none⟩ = some (.int .u8 (y2 : Int)) := hr2 2 _ rfl
        have q3 : w.cell? ⟨b1, o1 + k * 8 + 3, none⟩ = some (.int .u8 (x3 : Int)) := hr1 3 _ rfl
        have p3 : w.cell? ⟨b2, o2 + k * 8 + 3, none⟩ = some (.int .u8 (y3 : Int)) := hr2 3 _ rfl
        have q4 : w.cell? ⟨b1, o1 + k * 8 + 4, none⟩ = some (.int .u8 (x4 : Int)) := hr1 4 _ rfl
        have p4 : w.cell? ⟨b2, o2 + k * 8 + 4, none⟩ = some (.int .u8 (y4 : Int)) := hr2 4 _ rfl
        have q5 : w.cell? ⟨b1, o1 + k * 8 + 5, none⟩ = some (.int .u8 (x5 : Int)) := hr1 5 _ rfl
        have p5 : w.cell? ⟨b2, o2 + k * 8 + 5, none⟩ = some (.int .u8 (y5 : Int)) := hr2 5 _ rfl
        have q6 : w.cell? ⟨b1, o1 + k * 8 + 6, none⟩ = some (.int .u8 (x6 : Int)) := hr1 6 _ rfl
        have p6 : w.cell? ⟨b2, o2 + k * 8 + 6, none⟩ = some (.int .u8 (y6 : Int)) := hr2 6 _ rfl
        have q7 : w.cell? ⟨b1, o1 + k * 8 + 7, none⟩ = some (.int .u8 (x7 : Int)) := hr1 7 _ rfl
        have p7 : w.cell? ⟨b2, o2 + k * 8 + 7, none⟩ = some (.int .u8 (y7 : Int)) := hr2 7 _ rfl
        rw [Nat.add_zero] at q0 p0
        obtain ⟨bb, hbb⟩ : ∃ bb, decide ([x0, x1, x2, x3, x4, x5, x6, x7] = [y0, y1, y2, y3, y4, y5, y6, y7]) = bb := ⟨_, rfl⟩
        rw [hbb] at heq
        have heq2 : ∀ W : World, (Op.equalIn 10000 59 (.agg #[.int .u8 (x0 : Int), .int .u8 (x1 : Int), .int .u8 (x2 : Int), .int .u8 (x3 : Int), .int .u8 (x4 : Int), .int .u8 (x5 : Int), .int .u8 (x6 : Int), .int .u8 (x7 : Int)]) (.agg #[.int .u8 (y0 : Int), .int .u8 (y1 : Int), .int .u8 (y2 : Int), .int .u8 (y3 : Int), .int .u8 (y4 : Int), .int .u8 (y5 : Int), .int .u8 (y6 : Int), .int .u8 (y7 : Int)])).run Try.prog W = .ok bb W := heq
        clear heq hxo hyo
        clear hr1 hr2 hx hy
        by_cases hxy : bb = true
        · have HN := hid (hnext (of_decide_eq_true (hbb.trans hxy)))
          subst hxy
          clear hbb
          clear hnext hdiff
          go_wp2_with fail
          go_quiet (fail)
          go_wp2
          go_roundw
          case rel => exact ⟨k + 1, by omega, by go_num, HN, _, rfl⟩
          case measure => simp [Go.RowKit.intOf]; omega
        · have HD := hid (hdiff (of_decide_eq_false (hbb.trans (by simpa using hxy))))
          have hxf : bb = false := by simpa using hxy
          subst hxf
          clear hbb hxy
          clear hnext hdiff
          go_wp2_with fail
          go_quiet (fail)
          go_wp2
          go_ret
          exact ⟨(congrArg (fun b => Ending.returned (Value.bool b)) HD.out).symm, q + nq, by simp⟩
      · obtain rfl : k = xs.length := by omega
        have hall : xs = ys := by have h := HT.out; rwa [List.take_length, HLEN.out, List.take_length] at h
        have HD := hid (decide_eq_true hall)
        clear hall
        go_wp2
        go_ret
        exact ⟨(congrArg (fun b => Ending.returned (Value.bool b)) HD.out).symm, _, rfl⟩
  · have d1 : ((xs.length : Int) != (ys.length : Int)) = true := by rw [bne_iff_ne]; omega
    have HD : Hid (decide (xs = ys) = false) := hid (decide_eq_false (fun e => hlen (by rw [e])))
    clear hlen
    go_enter Try.func77, Try.ntmps77
    go_wp2
    go_ret
    exact ⟨(congrArg (fun b => Ending.returned (Value.bool b)) HD.out).symm, 0, rfl⟩
end Go.Proofs.Ytchpoddfjbopbaa
