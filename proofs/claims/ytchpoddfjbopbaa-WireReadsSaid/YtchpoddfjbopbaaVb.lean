/- IndexFunc, ContainsFunc; few. -/
import Derived.Test.YtchpoddfjbopbaaWb
import Derived.Test.YtchpoddfjbopbaaUa
namespace Go.Proofs.Ytchpoddfjbopbaa
open Go.RowKit Go.Lib

def Found (b : Bool) (w : World) (e : Ending) (w' : World) : Prop := ∃ r : Int, e = .returned (.int .i64 r) ∧ decide (0 ≤ r) = b ∧ Below w.heap.size w w'

set_option maxHeartbeats 2000000 in
set_option maxRecDepth 100000 in
theorem idxInt_any (xs : List Int) (p : Int → Bool) (u : Value) (w : World) (hu : Arr w u 1 (xs.map cInt))
    (hp : ∀ x ∈ xs, ∀ W : World, Calls Try.prog 43 #[.int .i64 x] W (SaysB (p x) W)) :
    Calls Try.prog 78 #[u, .func (.func 43) #[] #[]] w (Found (xs.any p) w) := by
  obtain ⟨C, cc, rfl, hcap, hcm, b, off, hA, hc⟩ := hu
  unfold maxLen at hcm
  rw [List.length_map] at hcap hA ⊢
  have HC := hid hc
  have HP := hid hp
  clear hc hp
  go_enter Try.func78, Try.ntmps78
  go_wp2
  go_loopw [8] (fun i wr => ∃ k : Nat, k ≤ xs.length ∧ i = .int .i64 (k : Int) ∧ Hid ((xs.take k).any p = false) ∧ Hid (Below w.heap.size w wr)) (fun i _ => xs.length - (Go.RowKit.intOf i).toNat)
  case atStart => exact ⟨0, by omega, rfl, hid (by simp), hid (Below.refl _ _)⟩
  case round =>
    obtain ⟨k, hk, rfl, HK, HB⟩ := hrel
    by_cases hkl : k < xs.length
    · obtain ⟨hA1, hb⟩ := hA (by omega)
      subst hA1
      obtain ⟨x, hxk⟩ : ∃ x, xs[k]? = some x := ⟨xs[k], List.getElem?_eq_getElem hkl⟩
      have hrow : ∀ (j : Nat) (v : Value), (cInt x)[j]? = some v → wr.cell? ⟨b, off + k * 1 + j, none⟩ = some v := fun j v hv =>
        (HB.out.cell (p := ⟨b, _, none⟩) hb).trans (HC.out k _ (by rw [List.getElem?_map, hxk]; rfl) j v hv)
      have HPx := hid (HP.out x (List.mem_of_getElem? hxk) wr)
      have hsn : xs.take (k + 1) = xs.take k ++ [x] := by
        obtain ⟨hk', rfl⟩ := List.getElem?_eq_some_iff.1 hxk
        rw [List.take_succ_eq_append_getElem hk']
      have hany : p x = true → xs.any p = true := fun h => List.any_eq_true.2 ⟨x, List.mem_of_getElem? hxk, h⟩
      have HSN := hid (fun h : p x = false => show (xs.take (k + 1)).any p = false by rw [hsn, List.any_append, HK.out]; simp [h])
      have HANY := hid hany
      obtain ⟨q, hq⟩ : ∃ q, p x = q := ⟨_, rfl⟩
      rw [hq] at HPx HSN HANY
      have c0 := hrow 0 _ rfl
      rw [Nat.add_zero, Nat.mul_one] at c0
      clear hq hxk hsn hany hrow
      rcases q with _ | _
      · have HSq := hid (HSN.out rfl)
        clear HANY HSN
        go_wp2_with fail
        refine HPx.out.mono ?_
        rintro e w1 ⟨rfl, hb1⟩
        have HB1 := hid (below_both HB.out hb1)
        clear hb1
        go_wp2
        go_roundw
        case rel => exact ⟨k + 1, by omega, by go_num, HSq, HB1⟩
        case measure => simp [Go.RowKit.intOf]; omega
      · have HAq := hid (HANY.out rfl)
        clear HSN HANY
        go_wp2_with fail
        refine HPx.out.mono ?_
        rintro e w1 ⟨rfl, hb1⟩
        have HB1 := hid (below_both HB.out hb1)
        clear hb1
        go_wp2
        go_ret
        exact ⟨(k : Int), rfl, by rw [HAq.out]; simp, HB1.out⟩
    · obtain rfl : k = xs.length := by omega
      have HE : Hid (xs.any p = false) := hid (by have h := HK.out; rwa [List.take_length] at h)
      go_wp2
      go_ret
      exact ⟨-1, rfl, by rw [HE.out]; simp, HB.out⟩

set_option maxHeartbeats 2000000 in
set_option maxRecDepth 100000 in
theorem conInt_any (xs : List Int) (p : Int → Bool) (u : Value) (w : World) (hu : Arr w u 1 (xs.map cInt))
    (hp : ∀ x ∈ xs, ∀ W : World, Calls Try.prog 43 #[.int .i64 x] W (SaysB (p x) W)) :
    Calls Try.prog 42 #[u, .func (.func 43) #[] #[]] w (SaysB (xs.any p) w) := by
  have HI := hid (idxInt_any xs p u w hu hp)
  obtain ⟨A, c, rfl⟩ := arr_form hu
  rw [List.length_map] at HI ⊢
  obtain ⟨q, hq⟩ : ∃ q, xs.any p = q := ⟨_, rfl⟩
  rw [hq] at HI ⊢
  clear hu hp hq
  go_enter Try.func42, Try.ntmps42
  go_wp2_with fail
  refine HI.out.mono ?_
  rintro e w1 ⟨r, rfl, hr, hb⟩
  have HB := hid hb
  clear hb
  go_wp2
  go_ret
  exact ⟨rfl, HB.out⟩

set_option maxHeartbeats 2000000 in
set_option maxRecDepth 100000 in
theorem idxExt_any (xs : List (Int × Int)) (p : (Int × Int) → Bool) (u : Value) (w : World) (hu : Arr w u 2 (xs.map cExt))
    (hp : ∀ x ∈ xs, ∀ W : World, Calls Try.prog 46 #[.agg (cExt x).toArray] W (SaysB (p x) W)) :
    Calls Try.prog 79 #[u, .func (.func 46) #[] #[]] w (Found (xs.any p) w) := by
  obtain ⟨C, cc, rfl, hcap, hcm, b, off, hA, hc⟩ := hu
  unfold maxLen at hcm
  rw [List.length_map] at hcap hA ⊢
  have HC := hid hc
  have HP := hid hp
  clear hc hp
  go_enter Try.func79, Try.ntmps79
  go_wp2
  go_loopw [8] (fun i wr => ∃ k : Nat, k ≤ xs.length ∧ i = .int .i64 (k : Int) ∧ Hid ((xs.take k).any p = false) ∧ Hid (Below w.heap.size w wr)) (fun i _ => xs.length - (Go.RowKit.intOf i).toNat)
  case atStart => exact ⟨0, by omega, rfl, hid (by simp), hid (Below.refl _ _)⟩
  case round =>
    obtain ⟨k, hk, rfl, HK, HB⟩ := hrel
    by_cases hkl : k < xs.length
    · obtain ⟨hA1, hb⟩ := hA (by omega)
      subst hA1
      obtain ⟨x, hxk⟩ : ∃ x, xs[k]? = some x := ⟨xs[k], List.getElem?_eq_getElem hkl⟩
      have hrow : ∀ (j : Nat) (v : Value), (cExt x)[j]? = some v → wr.cell? ⟨b, off + k * 2 + j, none⟩ = some v := fun j v hv =>
        (HB.out.cell (p := ⟨b, _, none⟩) hb).trans (HC.out k _ (by rw [List.getElem?_map, hxk]; rfl) j v hv)
      have HPx := hid (HP.out x (List.mem_of_getElem? hxk) wr)
      have hsn : xs.take (k + 1) = xs.take k ++ [x] := by
        obtain ⟨hk', rfl⟩ := List.getElem?_eq_some_iff.1 hxk
        rw [List.take_succ_eq_append_getElem hk']
      have hany : p x = true → xs.any p = true := fun h => List.any_eq_true.2 ⟨x, List.mem_of_getElem? hxk, h⟩
      have HSN := hid (fun h : p x = false => show (xs.take (k + 1)).any p = false by rw [hsn, List.any_append, HK.out]; simp [h])
      have HANY := hid hany
      obtain ⟨q, hq⟩ : ∃ q, p x = q := ⟨_, rfl⟩
      rw [hq] at HPx HSN HANY
      obtain ⟨x0, x1⟩ := x
      have c0 : wr.cell? ⟨b, off + k * 2, none⟩ = some (.int .i64 x0) := hrow 0 _ rfl
      have c1 : wr.cell? ⟨b, off + k * 2 + 1, none⟩ = some (.int .i64 x1) := hrow 1 _ rfl
      clear hq hxk hsn hany hrow
      rcases q with _ | _
      · have HSq := hid (HSN.out rfl)
        clear HANY HSN
        go_wp2_with fail
        refine HPx.out.mono ?_
        rintro e w1 ⟨rfl, hb1⟩
        have HB1 := hid (below_both HB.out hb1)
        clear hb1
        go_wp2
        go_roundw
        case rel => exact ⟨k + 1, by omega, by go_num, HSq, HB1⟩
        case measure => simp [Go.RowKit.intOf]; omega
      · have HAq := hid (HANY.out rfl)
        clear HSN HANY
        go_wp2_with fail
        refine HPx.out.mono ?_
        rintro e w1 ⟨rfl, hb1⟩
        have HB1 := hid (below_both HB.out hb1)
        clear hb1
        go_wp2
        go_ret
        exact ⟨(k : Int), rfl, by rw [HAq.out]; simp, HB1.out⟩
    · obtain rfl : k = xs.length := by omega
      have HE : Hid (xs.any p = false) := hid (by have h := HK.out; rwa [List.take_length] at h)
      go_wp2
      go_ret
      exact ⟨-1, rfl, by rw [HE.out]; simp, HB.out⟩

set_option maxHeartbeats 2000000 in
set_option maxRecDepth 100000 in
theorem conExt_any (xs : List (Int × Int)) (p : (Int × Int) → Bool) (u : Value) (w : World) (hu : Arr w u 2 (xs.map cExt))
    (hp : ∀ x ∈ xs, ∀ W : World, Calls Try.prog 46 #[.agg (cExt x).toArray] W (SaysB (p x) W)) :
    Calls Try.prog 45 #[u, .func (.func 46) #[] #[]] w (SaysB (xs.any p) w) := by
  have HI := hid (idxExt_any xs p u w hu hp)
  obtain ⟨A, c, rfl⟩ := arr_form hu
  rw [List.length_map] at HI ⊢
  obtain ⟨q, hq⟩ : ∃ q, xs.any p = q := ⟨_, rfl⟩
  rw [hq] at HI ⊢
  clear hu hp hq
  go_enter Try.func45, Try.ntmps45
  go_wp2_with fail
  refine HI.out.mono ?_
  rintro e w1 ⟨r, rfl, hr, hb⟩
  have HB := hid hb
  clear hb
  go_wp2
  go_ret
  exact ⟨rfl, HB.out⟩

set_option maxHeartbeats 2000000 in
set_option maxRecDepth 100000 in
theorem idxWriR_any (xs : List Wri) (p : Wri → Bool) (u : Value) (w : World) (hu : Arr w u 3 (xs.map cWri)) (hok : ∀ x ∈ xs, ∃ A n c, x.d = .slice A n c)
    (hp : ∀ x ∈ xs, ∀ W : World, Calls Try.prog 48 #[.agg (cWri x).toArray] W (SaysB (p x) W)) :
    Calls Try.prog 80 #[u, .func (.func 48) #[] #[]] w (Found (xs.any p) w) := by
  obtain ⟨C, cc, rfl, hcap, hcm, b, off, hA, hc⟩ := hu
  unfold maxLen at hcm
  rw [List.length_map] at hcap hA ⊢
  have HC := hid hc
  have HP := hid hp
  have HOK := hid hok
  clear hok
  clear hc hp
  go_enter Try.func80, Try.ntmps80
  go_wp2
  go_loopw [8] (fun i wr => ∃ k : Nat, k ≤ xs.length ∧ i = .int .i64 (k : Int) ∧ Hid ((xs.take k).any p = false) ∧ Hid (Below w.heap.size w wr)) (fun i _ => xs.length - (Go.RowKit.intOf i).toNat)
  case atStart => exact ⟨0, by omega, rfl, hid (by simp), hid (Below.refl _ _)⟩
  case round =>
    obtain ⟨k, hk, rfl, HK, HB⟩ := hrel
    by_cases hkl : k < xs.length
    · obtain ⟨hA1, hb⟩ := hA (by omega)
      subst hA1
      obtain ⟨x, hxk⟩ : ∃ x, xs[k]? = some x := ⟨xs[k], List.getElem?_eq_getElem hkl⟩
      have hrow : ∀ (j : Nat) (v : Value), (cWri x)[j]? = some v → wr.cell? ⟨b, off + k * 3 + j, none⟩ = some v := fun j v hv =>
        (HB.out.cell (p := ⟨b, _, none⟩) hb).trans (HC.out k _ (by rw [List.getElem?_map, hxk]; rfl) j v hv)
      have HPx := hid (HP.out x (List.mem_of_getElem? hxk) wr)
      have hsn : xs.take (k + 1) = xs.take k ++ [x] := by
        obtain ⟨hk', rfl⟩ := List.getElem?_eq_some_iff.1 hxk
        rw [List.take_succ_eq_append_getElem hk']
      have hany : p x = true → xs.any p = true := fun h => List.any_eq_true.2 ⟨x, List.mem_of_getElem? hxk, h⟩
      have HSN := hid (fun h : p x = false => show (xs.take (k + 1)).any p = false by rw [hsn, List.any_append, HK.out]; simp [h])
      have HANY := hid hany
      obtain ⟨q, hq⟩ : ∃ q, p x = q := ⟨_, rfl⟩
      rw [hq] at HPx HSN HANY
      obtain ⟨y0, y1, y2, y3⟩ := x
      have c0 : wr.cell? ⟨b, off + k * 3, none⟩ = some (.int .i64 y0) := hrow 0 _ rfl
      have c1 : wr.cell? ⟨b, off + k * 3 + 1, none⟩ = some (.int .i64 y1) := hrow 1 _ rfl
      have c2 : wr.cell? ⟨b, off + k * 3 + 2, none⟩ = some y2 := hrow 2 _ rfl
      obtain ⟨A3, n3, c3, hy2⟩ := HOK.out _ (List.mem_of_getElem? hxk)
      dsimp only at hy2
      subst hy2
      clear hq hxk hsn hany hrow
      rcases q with _ | _
      · have HSq := hid (HSN.out rfl)
        clear HANY HSN
        go_wp2_with fail
        refine HPx.out.mono ?_
        rintro e w1 ⟨rfl, hb1⟩
        have HB1 := hid (below_both HB.out hb1)
        clear hb1
        go_wp2
        go_roundw
        case rel => exact ⟨k + 1, by omega, by go_num, HSq, HB1⟩
        case measure => simp [Go.RowKit.intOf]; omega
      · have HAq := hid (HANY.out rfl)
        clear HSN HANY
        go_wp2_with fail
        refine HPx.out.mono ?_
        rintro e w1 ⟨rfl, hb1⟩
        have HB1 := hid (below_both HB.out hb1)
        clear hb1
        go_wp2
        go_ret
        exact ⟨(k : Int), rfl, by rw [HAq.out]; simp, HB1.out⟩
    · obtain rfl : k = xs.length := by omega
      have HE : Hid (xs.any p = false) := hid (by have h := HK.out; rwa [List.take_length] at h)
      go_wp2
      go_ret
      exact ⟨-1, rfl, by rw [HE.out]; simp, HB.out⟩

set_option maxHeartbeats 2000000 in
set_option maxRecDepth 100000 in
theorem conWriR_any (xs : List Wri) (p : Wri → Bool) (u : Value) (w : World) (hu : Arr w u 3 (xs.map cWri)) (hok : ∀ x ∈ xs, ∃ A n c, x.d = .slice A n c)
    (hp : ∀ x ∈ xs, ∀ W : World, Calls Try.prog 48 #[.agg (cWri x).toArray] W (SaysB (p x) W)) :
    Calls Try.prog 47 #[u, .func (.func 48) #[] #[]] w (SaysB (xs.any p) w) := by
  have HI := hid (idxWriR_any xs p u w hu hok hp)
  obtain ⟨A, c, rfl⟩ := arr_form hu
  rw [List.length_map] at HI ⊢
  obtain ⟨q, hq⟩ : ∃ q, xs.any p = q := ⟨_, rfl⟩
  rw [hq] at HI ⊢
  clear hu hp hq
  go_enter Try.func47, Try.ntmps47
  go_wp2_with fail
  refine HI.out.mono ?_
  rintro e w1 ⟨r, rfl, hr, hb⟩
  have HB := hid hb
  clear hb
  go_wp2
  go_ret
  exact ⟨rfl, HB.out⟩

set_option maxHeartbeats 2000000 in
set_option maxRecDepth 100000 in
theorem idxWriL_any (xs : List Wri) (p : Wri → Bool) (u : Value) (w : World) (hu : Arr w u 3 (xs.map cWri)) (hok : ∀ x ∈ xs, ∃ A n c, x.d = .slice A n c)
    (hp : ∀ x ∈ xs, ∀ W : World, Calls Try.prog 56 #[.agg (cWri x).toArray] W (SaysB (p x) W)) :
    Calls Try.prog 80 #[u, .func (.func 56) #[] #[]] w (Found (xs.any p) w) := by
  obtain ⟨C, cc, rfl, hcap, hcm, b, off, hA, hc⟩ := hu
  unfold maxLen at hcm
  rw [List.length_map] at hcap hA ⊢
  have HC := hid hc
  have HP := hid hp
  have HOK := hid hok
  clear hok
  clear hc hp
  go_enter Try.func80, Try.ntmps80
  go_wp2
  go_loopw [8] (fun i wr => ∃ k : Nat, k ≤ xs.length ∧ i = .int .i64 (k : Int) ∧ Hid ((xs.take k).any p = false) ∧ Hid (Below w.heap.size w wr)) (fun i _ => xs.length - (Go.RowKit.intOf i).toNat)
  case atStart => exact ⟨0, by omega, rfl, hid (by simp), hid (Below.refl _ _)⟩
  case round =>
    obtain ⟨k, hk, rfl, HK, HB⟩ := hrel
    by_cases hkl : k < xs.length
    · obtain ⟨hA1, hb⟩ := hA (by omega)
      subst hA1
      obtain ⟨x, hxk⟩ : ∃ x, xs[k]? = some x := ⟨xs[k], List.getElem?_eq_getElem hkl⟩
      have hrow : ∀ (j : Nat) (v : Value), (cWri x)[j]? = some v → wr.cell? ⟨b, off + k * 3 + j, none⟩ = some v := fun j v hv =>
        (HB.out.cell (p := ⟨b, _, none⟩) hb).trans (HC.out k _ (by rw [List.getElem?_map, hxk]; rfl) j v hv)
      have HPx := hid (HP.out x (List.mem_of_getElem? hxk) wr)
      have hsn : xs.take (k + 1) = xs.take k ++ [x] := by
        obtain ⟨hk', rfl⟩ := List.getElem?_eq_some_iff.1 hxk
        rw [List.take_succ_eq_append_getElem hk']
      have hany : p x = true → xs.any p = true := fun h => List.any_eq_true.2 ⟨x, List.mem_of_getElem? hxk, h⟩
      have HSN := hid (fun h : p x = false => show (xs.take (k + 1)).any p = false by rw [hsn, List.any_append, HK.out]; simp [h])
      have HANY := hid hany
      obtain ⟨q, hq⟩ : ∃ q, p x = q := ⟨_, rfl⟩
      rw [hq] at HPx HSN HANY
      obtain ⟨y0, y1, y2, y3⟩ := x
      have c0 : wr.cell? ⟨b, off + k * 3, none⟩ = some (.int .i64 y0) := hrow 0 _ rfl
      have c1 : wr.cell? ⟨b, off + k * 3 + 1, none⟩ = some (.int .i64 y1) := hrow 1 _ rfl
      have c2 : wr.cell? ⟨b, off + k * 3 + 2, none⟩ = some y2 := hrow 2 _ rfl
      obtain ⟨A3, n3, c3, hy2⟩ := HOK.out _ (List.mem_of_getElem? hxk)
      dsimp only at hy2
      subst hy2
      clear hq hxk hsn hany hrow
      rcases q with _ | _
      · have HSq := hid (HSN.out rfl)
        clear HANY HSN
        go_wp2_with fail
        refine HPx.out.mono ?_
        rintro e w1 ⟨rfl, hb1⟩
        have HB1 := hid (below_both HB.out hb1)
        clear hb1
        go_wp2
        go_roundw
        case rel => exact ⟨k + 1, by omega, by go_num, HSq, HB1⟩
        case measure => simp [Go.RowKit.intOf]; omega
      · have HAq := hid (HANY.out rfl)
        clear HSN HANY
        go_wp2_with fail
        refine HPx.out.mono ?_
        rintro e w1 ⟨rfl, hb1⟩
        have HB1 := hid (below_both HB.out hb1)
        clear hb1
        go_wp2
        go_ret
        exact ⟨(k : Int), rfl, by rw [HAq.out]; simp, HB1.out⟩
    · obtain rfl : k = xs.length := by omega
      have HE : Hid (xs.any p = false) := hid (by have h := HK.out; rwa [List.take_length] at h)
      go_wp2
      go_ret
      exact ⟨-1, rfl, by rw [HE.out]; simp, HB.out⟩

set_option maxHeartbeats 2000000 in
set_option maxRecDepth 100000 in
theorem conWriL_any (xs : List Wri) (p : Wri → Bool) (u : Value) (w : World) (hu : Arr w u 3 (xs.map cWri)) (hok : ∀ x ∈ xs, ∃ A n c, x.d = .slice A n c)
    (hp : ∀ x ∈ xs, ∀ W : World, Calls Try.prog 56 #[.agg (cWri x).toArray] W (SaysB (p x) W)) :
    Calls Try.prog 47 #[u, .func (.func 56) #[] #[]] w (SaysB (xs.any p) w) := by
  have HI := hid (idxWriL_any xs p u w hu hok hp)
  obtain ⟨A, c, rfl⟩ := arr_form hu
  rw [List.length_map] at HI ⊢
  obtain ⟨q, hq⟩ : ∃ q, xs.any p = q := ⟨_, rfl⟩
  rw [hq] at HI ⊢
  clear hu hp hq
  go_enter Try.func47, Try.ntmps47
  go_wp2_with fail
  refine HI.out.mono ?_
  rintro e w1 ⟨r, rfl, hr, hb⟩
  have HB := hid hb
  clear hb
  go_wp2
  go_ret
  exact ⟨rfl, HB.out⟩

def longB (x : Wri) : Bool := decide (20 < x.l.length)
set_option maxHeartbeats 2000000 in
set_option maxRecDepth 100000 in
theorem long_any (x : Wri) (hx : ∃ A c, x.d = .slice A x.l.length c) (w : World) : Calls Try.prog 56 #[.agg (cWri x).toArray] w (SaysB (longB x) w) := by
  obtain ⟨a, b, d, l⟩ := x
  obtain ⟨A, c, hd⟩ := hx
  dsimp only at hd
  subst hd
  show Calls Try.prog 56 #[.agg #[.int .i64 a, .int .i64 b, .slice A l.length c]] w _
  unfold longB
  dsimp only
  by_cases h : 20 < l.length
  · have d1 : decide ((20 : Int) < (l.length : Int)) = true := by simp; omega
    rw [decide_eq_true h]
    go_enter Try.func56, Try.ntmps56
    go_wp2
    go_ret
    exact ⟨rfl, al1 _ _⟩
  · have d1 : decide ((20 : Int) < (l.length : Int)) = false := by simp; omega
    rw [decide_eq_false h]
    go_enter Try.func56, Try.ntmps56
    go_wp2
    go_ret
    exact ⟨rfl, al1 _ _⟩
def fewB (x : Vals) : Bool := decide (x.li.length ≤ 40) && (decide (x.ls.length ≤ 40) && (decide (x.le.length ≤ 40) && (decide (x.lw.length ≤ 20) && !(x.lw.any longB))))
theorem wrsA_form {w : World} {v : Value} {l : List Wri} (h : WrsA w v l) : ∀ x ∈ l, ∃ A c, x.d = .slice A x.l.length c := fun x hx => sec_form (h.1 x hx)
theorem Val.below {w w' : World} {x : Vals} (h : Val w x) (hb : Below w.heap.size w w') : Val w' x := ⟨h.1.below hb, h.2.1.below hb, h.2.2.1.below hb, fun y hy => (h.2.2.2.1 y hy).below hb, h.2.2.2.2.below hb⟩
theorem val_form {w : World} {x : Vals} (h : Val w x) : ∃ A0 c0 A1 c1 A2 c2 A3 c3, x.vi = .slice A0 x.li.length c0 ∧ x.vs = .slice A1 x.ls.length c1 ∧ x.ve = .slice A2 x.le.length c2 ∧ x.vw = .slice A3 x.lw.length c3 := by
  obtain ⟨A0, c0, e0⟩ := arr_form h.1
  obtain ⟨A1, c1, e1⟩ := sec_form h.2.1
  obtain ⟨A2, c2, e2⟩ := arr_form h.2.2.1
  obtain ⟨A3, c3, e3⟩ := arr_form h.2.2.2.2
  rw [List.length_map] at e0 e2 e3
  exact ⟨A0, c0, A1, c1, A2, c2, A3, c3, e0, e1, e2, e3⟩

set_option maxHeartbeats 2000000 in
set_option maxRecDepth 100000 in
theorem few_any (x : Vals) (w : World) (hx : Val w x) : Calls Try.prog 19 #[valV x] w (SaysB (fewB x) w) := by
  have HCN := hid (fun (W : World) (h : Val W x) => conWriL_any x.lw longB x.vw W h.2.2.2.2 (fun y hy => by obtain ⟨A, c, e⟩ := wrsA_form h.2.2.2 y hy; exact ⟨A, _, c, e⟩) (fun y hy W' => long_any y (wrsA_form h.2.2.2 y hy) W'))
  obtain ⟨A0, k0, A1, k1, A2, k2, A3, k3, e0, e1, e2, e3⟩ := val_form hx
  obtain ⟨vi, vs, ve, vw, li, ls, le, lw⟩ := x
  dsimp only at e0 e1 e2 e3
  subst e0 e1 e2 e3
  have HV := hid hx
  show Calls Try.prog 19 #[.agg #[.slice A0 li.length k0, .slice A1 ls.length k1, .slice A2 le.length k2, .slice A3 lw.length k3]] w _
  unfold fewB
  dsimp only at HCN ⊢
  clear hx
  by_cases h0 : li.length ≤ 40
  · have d0 : decide ((li.length : Int) ≤ 40) = true := by simp; omega
    rw [decide_eq_true h0, Bool.true_and]
    by_cases h1 : ls.length ≤ 40
    · have d1 : decide ((ls.length : Int) ≤ 40) = true := by simp; omega
      rw [decide_eq_true h1, Bool.true_and]
      by_cases h2 : le.length ≤ 40
      · have d2 : decide ((le.length : Int) ≤ 40) = true := by simp; omega
        rw [decide_eq_true h2, Bool.true_and]
        by_cases h3 : lw.length ≤ 20
        · have d3 : decide ((lw.length : Int) ≤ 20) = true := by simp; omega
          rw [decide_eq_true h3, Bool.true_and]
          have HC := hid (HCN.out _ (HV.out.below (al1 w (.cells #[.slice A0 li.length k0, .slice A1 ls.length k1, .slice A2 le.length k2, .slice A3 lw.length k3] 34))))
          obtain ⟨q, hq⟩ : ∃ q, lw.any longB = q := ⟨_, rfl⟩
          rw [hq] at HC ⊢
          clear hq HCN
          go_enter Try.func19, Try.ntmps19
          go_wp2_with fail
          refine HC.out.mono ?_
          rintro e w1 ⟨rfl, hb1⟩
          have HB1 := hid (al_back hb1)
          clear hb1
          go_wp2
          go_ret
          exact ⟨rfl, HB1.out⟩
        · have d3 : decide ((lw.length : Int) ≤ 20) = false := by simp; omega
          rw [decide_eq_false h3, Bool.false_and]
          go_enter Try.func19, Try.ntmps19
          go_wp2
          go_ret
          exact ⟨rfl, al1 _ _⟩
      · have d2 : decide ((le.length : Int) ≤ 40) = false := by simp; omega
        rw [decide_eq_false h2, Bool.false_and]
        go_enter Try.func19, Try.ntmps19
        go_wp2
        go_ret
        exact ⟨rfl, al1 _ _⟩
    · have d1 : decide ((ls.length : Int) ≤ 40) = false := by simp; omega
      rw [decide_eq_false h1, Bool.false_and]
      go_enter Try.func19, Try.ntmps19
      go_wp2
      go_ret
      exact ⟨rfl, al1 _ _⟩
  · have d0 : decide ((li.length : Int) ≤ 40) = false := by simp; omega
    rw [decide_eq_false h0, Bool.false_and]
    go_enter Try.func19, Try.ntmps19
    go_wp2
    go_ret
    exact ⟨rfl, al1 _ _⟩

end Go.Proofs.Ytchpoddfjbopbaa
