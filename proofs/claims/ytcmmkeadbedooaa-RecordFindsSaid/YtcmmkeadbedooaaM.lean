/- ContainsFunc of sectors with another number; of bytes that are not zero. -/
import Derived.Test.YtcmmkeadbedooaaL
namespace Go.Proofs.Ytcmmkeadbedooaa
open Go.RowKit Go.Lib

set_option maxHeartbeats 2000000 in
set_option maxRecDepth 100000 in
theorem other_any (s : Sect) (q nb : Nat) (w : World) (hs : s.length = 8) (h8 : B8 s) (hq : w.cell? ⟨nb, 0, none⟩ = some (.int .u32 (q : Int))) :
    Calls Try.prog 43 #[.agg (cSec s).toArray, .pointer (some ⟨nb, 0, none⟩)] w fun e w' => e = .returned (.bool (num s != q)) ∧ Below w.heap.size w w' := by
  have hnl : nb < w.heap.size := by
    unfold World.cell? at hq
    rcases Nat.lt_or_ge nb w.heap.size with h | h
    · exact h
    · simp [Array.getElem?_eq_none h] at hq
  have h8' := h8
  obtain ⟨x0, x1, x2, x3, x4, x5, x6, x7, rfl⟩ := list8 hs
  have HNUM := hid (fun W => num_any [x0, x1, x2, x3, x4, x5, x6, x7] W rfl h8')
  show Calls Try.prog 43 #[.agg #[.int .u8 (x0 : Int), .int .u8 (x1 : Int), .int .u8 (x2 : Int), .int .u8 (x3 : Int), .int .u8 (x4 : Int), .int .u8 (x5 : Int), .int .u8 (x6 : Int), .int .u8 (x7 : Int)], .pointer (some ⟨nb, 0, none⟩)] w _
  obtain ⟨W, hW⟩ : ∃ W, w.alloc (.cells #[.int .u8 (x0 : Int), .int .u8 (x1 : Int), .int .u8 (x2 : Int), .int .u8 (x3 : Int), .int .u8 (x4 : Int), .int .u8 (x5 : Int), .int .u8 (x6 : Int), .int .u8 (x7 : Int)] 52) = W := ⟨_, rfl⟩
  have hbx : W.heap[w.heap.size]? = some (.cells #[.int .u8 (x0 : Int), .int .u8 (x1 : Int), .int .u8 (x2 : Int), .int .u8 (x3 : Int), .int .u8 (x4 : Int), .int .u8 (x5 : Int), .int .u8 (x6 : Int), .int .u8 (x7 : Int)] 52) := by rw [← hW]; exact heap_alloc_new _ _
  have hbW : Below w.heap.size w W := by rw [← hW]; exact al1 _ _
  have hq1 : W.cell? ⟨nb, 0, none⟩ = some (.int .u32 (q : Int)) := (hbW.cell (p := ⟨nb, 0, none⟩) hnl).trans hq
  obtain ⟨N, hN⟩ : ∃ N, num [x0, x1, x2, x3, x4, x5, x6, x7] = N := ⟨_, rfl⟩
  rw [hN] at HNUM ⊢
  have hdec : ((N : Int) != (q : Int)) = (N != q) := by
    have h : ((N : Int) == (q : Int)) = (N == q) := by rw [Bool.eq_iff_iff, beq_iff_eq, beq_iff_eq]; omega
    unfold bne; rw [h]
  have HD := hid hdec
  have HBX := hid hbx
  have HBW := hid hbW
  have HW := hid hW
  have p0 : W.cell? ⟨w.heap.size, 0, none⟩ = some (.int .u8 (x0 : Int)) := cell_of_row _ _ 0 _ _ _ hbx
  have p1 : W.cell? ⟨w.heap.size, 1, none⟩ = some (.int .u8 (x1 : Int)) := cell_of_row _ _ 1 _ _ _ hbx
  have p2 : W.cell? ⟨w.heap.size, 2, none⟩ = some (.int .u8 (x2 : Int)) := cell_of_row _ _ 2 _ _ _ hbx
  have p3 : W.cell? ⟨w.heap.size, 3, none⟩ = some (.int .u8 (x3 : Int)) := cell_of_row _ _ 3 _ _ _ hbx
  have p4 : W.cell? ⟨w.heap.size, 4, none⟩ = some (.int .u8 (x4 : Int)) := cell_of_row _ _ 4 _ _ _ hbx
  have p5 : W.cell? ⟨w.heap.size, 5, none⟩ = some (.int .u8 (x5 : Int)) := cell_of_row _ _ 5 _ _ _ hbx
  have p6 : W.cell? ⟨w.heap.size, 6, none⟩ = some (.int .u8 (x6 : Int)) := cell_of_row _ _ 6 _ _ _ hbx
  have p7 : W.cell? ⟨w.heap.size, 7, none⟩ = some (.int .u8 (x7 : Int)) := cell_of_row _ _ 7 _ _ _ hbx
  have hnw : nb < W.heap.size := Nat.lt_of_lt_of_le hnl hbW.size
  clear hbx hbW hW hq hdec hN h8 h8' hs
  go_enter Try.func43, Try.ntmps43
  go_wp2_with fail
  rw [HW.out]
  go_region_with (go_at_call 39; refine (HNUM.out W.drew).mono ?_; rintro e w2 ⟨rfl, hb2⟩; have hq2 : w2.cell? ⟨nb, 0, none⟩ = some (.int .u32 (q : Int)) := (hb2.cell (p := ⟨nb, 0, none⟩) hnw).trans hq1; have HB2 := hid (show Below w.heap.size w w2 from (below_drew HBW.out).trans (hb2.mono HBW.out.size)); clear hb2)
  all_goals
    go_wp2
    go_ret
    exact ⟨congrArg (fun b => Ending.returned (Value.bool b)) HD.out, HB2.out⟩
theorem others_take {q : Nat} {l : List Sect} {k : Nat} {s : Sect} (h : l[k]? = some s) : others q (l.take (k + 1)) = (others q (l.take k) || (num s != q)) := by
  unfold others
  rw [List.take_add_one, h, List.any_append]
  simp
theorem others_of {q : Nat} {l : List Sect} {k : Nat} {s : Sect} (h : l[k]? = some s) (hn : (num s != q) = true) : others q l = true := by
  unfold others
  rw [List.any_eq_true]
  exact ⟨s, List.mem_of_getElem? h, hn⟩

set_option maxHeartbeats 2000000 in
set_option maxRecDepth 100000 in
theorem idxS_any (l : List Sect) (q nb : Nat) (v : Value) (w : World) (hv : Sec w v l) (hl : l.length ≤ 100000) (hq : w.cell? ⟨nb, 0, none⟩ = some (.int .u32 (q : Int))) (hnl : nb < w.heap.size) :
    Calls Try.prog 50 #[v, .func (.func 43) #[] #[.pointer (some ⟨nb, 0, none⟩)]] w fun e w' => (∃ i : Int, e = .returned (.int .i64 i) ∧ (0 ≤ i ↔ others q l = true) ∧ -1 ≤ i ∧ i < 100000) ∧ Below w.heap.size w w' := by
  have hS := hv.1
  obtain ⟨A, c, rfl⟩ := sec_form hv
  obtain ⟨n, hn⟩ : ∃ n, l.length = n := ⟨_, rfl⟩
  have HV := hid hv
  have HS := hid hS
  have HNN := hid hn
  have HQ := hid hq
  rw [hn] at HV hl ⊢
  clear hv hS hn hq
  go_enter Try.func50, Try.ntmps50
  go_wp2_with fail
  go_loopw [8] (fun i wr => ∃ (k : Nat), k ≤ n ∧ i = .int .i64 (k : Int) ∧ Hid (others q (l.take k) = false) ∧ Hid (Below w.heap.size w wr)) (fun i _ => n - (RowKit.intOf i).toNat)
  case atStart => exact ⟨0, by omega, rfl, hid (by rw [List.take_zero]; rfl), hid (Below.refl _ _)⟩
  case round =>
    obtain ⟨k, hk, rfl, HO, HB⟩ := hrel
    by_cases hkn : k < n
    · obtain ⟨s, hs⟩ : ∃ s, l[k]? = some s := ⟨l[k]'(by rw [HNN.out]; exact hkn), List.getElem?_eq_getElem _⟩
      obtain ⟨hs8, hsb⟩ := HS.out s (List.mem_of_getElem? hs)
      obtain ⟨b, off, cap, he, _, _, hbl, hsc⟩ := sec_at (by rw [← HNN.out] at HV; exact HV.out) (by intro h; subst h; cases hs)
      injection he with he1 he2 he3
      subst he1
      subst he3
      have hsc' := (hsc k s hs).below hbl HB.out
      have HOK := hid (other_any s q nb wr hs8 hsb ((HB.out.cell (p := ⟨nb, 0, none⟩) hnl).trans HQ.out))
      have HT := hid (others_take (q := q) hs)
      have HF := hid (fun h => others_of (q := q) hs h)
      obtain ⟨d, hd⟩ : ∃ d, (num s != q) = d := ⟨_, rfl⟩
      rw [hd] at HOK HT HF
      obtain ⟨x0, x1, x2, x3, x4, x5, x6, x7, rfl⟩ := list8 hs8
      obtain ⟨p0, p1, p2, p3, p4, p5, p6, p7⟩ := hsc'.facts
      have hkc : (k : Int) < (n : Int) := by omega
      clear hs hsc hsc' hd hbl hs8 hsb
      go_wp2_with fail
      refine HOK.out.mono ?_
      rintro e w1 ⟨rfl, hb1⟩
      have HB1 := hid (HB.out.trans (hb1.mono HB.out.size))
      clear hb1 p0 p1 p2 p3 p4 p5 p6 p7 HOK
      cases d with
      | true =>
        go_wp2
        go_ret
        exact ⟨⟨(k : Int), rfl, ⟨fun _ => HF.out trivial, fun _ => by omega⟩, by omega, by omega⟩, HB1.out⟩
      | false =>
        go_wp2
        go_roundw
        case rel => exact ⟨k + 1, by omega, by go_num, hid (by rw [HT.out, HO.out]; rfl), HB1⟩
        case measure => simp [RowKit.intOf]; omega
    · obtain rfl : k = n := by omega
      have e : l.take k = l := List.take_of_length_le (by rw [HNN.out]; exact Nat.le_refl _)
      have ho := HO.out
      rw [e] at ho
      have HO' := hid ho
      clear ho
      go_wp2
      go_ret
      exact ⟨⟨-1, rfl, ⟨fun h => absurd h (by decide), fun h => by rw [HO'.out] at h; cases h⟩, by omega, by omega⟩, HB.out⟩
set_option maxHeartbeats 2000000 in
set_option maxRecDepth 100000 in
theorem otherS_any (l : List Sect) (q nb : Nat) (v : Value) (w : World) (hv : Sec w v l) (hl : l.length ≤ 100000) (hq : w.cell? ⟨nb, 0, none⟩ = some (.int .u32 (q : Int))) (hnl : nb < w.heap.size) :
    Calls Try.prog 42 #[v, .func (.func 43) #[] #[.pointer (some ⟨nb, 0, none⟩)]] w fun e w' => e = .returned (.bool (others q l)) ∧ Below w.heap.size w w' := by
  have HI := hid (idxS_any l q nb v w hv hl hq hnl)
  clear hv hq
  go_enter Try.func42, Try.ntmps42
  go_wp2_with fail
  refine HI.out.mono ?_
  rintro e w1 ⟨⟨i, rfl, hi, h1, h2⟩, hb1⟩
  have HII : Hid (decide (0 ≤ i) = others q l) := hid (by
    cases ho : others q l
    · rw [ho] at hi; simpa using hi
    · rw [ho] at hi; simpa using hi)
  have HB1 := hid hb1
  clear hb1 hi HI
  go_wp2
  go_ret
  exact ⟨congrArg (fun b => Ending.returned (Value.bool b)) HII.out, HB1.out⟩

theorem nz_any (x : Nat) (w : World) : Calls Try.prog 45 #[.int .u8 (x : Int)] w fun e w' => e = .returned (.bool (x != 0)) ∧ w = w' := by
  have h : ((x : Int) != 0) = (x != 0) := by
    have h : ((x : Int) == 0) = (x == 0) := by rw [Bool.eq_iff_iff, beq_iff_eq, beq_iff_eq]; omega
    unfold bne; rw [h]
  have HD := hid h
  clear h
  go_enter Try.func45, Try.ntmps45
  go_wp2
  go_ret
  exact ⟨congrArg (fun b => Ending.returned (Value.bool b)) HD.out, rfl⟩
theorem some0_take {l : List Nat} {k x : Nat} (h : l[k]? = some x) : some0 (l.take (k + 1)) = (some0 (l.take k) || (x != 0)) := by
  unfold some0
  rw [List.take_add_one, h, List.any_append]
  simp
theorem some0_in {l : List Nat} {k x : Nat} (h : l[k]? = some x) (hn : (x != 0) = true) : some0 l = true := by
  unfold some0
  rw [List.any_eq_true]
  exact ⟨x, List.mem_of_getElem? h, hn⟩
set_option maxHeartbeats 2000000 in
set_option maxRecDepth 100000 in
theorem idxB_any (l : List Nat) (v : Value) (w : World) (hv : Byt w v l) (hl : l.length ≤ 100000) :
    Calls Try.prog 51 #[v, .func (.func 45) #[] #[]] w fun e w' => (∃ i : Int, e = .returned (.int .i64 i) ∧ (0 ≤ i ↔ some0 l = true) ∧ -1 ≤ i ∧ i < 100000) ∧ Below w.heap.size w w' := by
  obtain ⟨A, c, rfl⟩ := byt_form hv
  obtain ⟨n, hn⟩ : ∃ n, l.length = n := ⟨_, rfl⟩
  have HV := hid hv
  have HNN := hid hn
  rw [hn] at HV hl ⊢
  clear hv hn
  go_enter Try.func51, Try.ntmps51
  go_wp2_with fail
  go_loopw [8] (fun i wr => ∃ (k : Nat), k ≤ n ∧ i = .int .i64 (k : Int) ∧ Hid (some0 (l.take k) = false) ∧ w = wr) (fun i _ => n - (RowKit.intOf i).toNat)
  case atStart => exact ⟨0, by omega, rfl, hid (by rw [List.take_zero]; rfl), rfl⟩
  case round =>
    obtain ⟨k, hk, rfl, HO, rfl⟩ := hrel
    by_cases hkn : k < n
    · obtain ⟨x, hx⟩ : ∃ x, l[k]? = some x := ⟨l[k]'(by rw [HNN.out]; exact hkn), List.getElem?_eq_getElem _⟩
      obtain ⟨b, off, rfl, hbl, hcell⟩ := byt_at HV.out (by rw [HNN.out]; omega)
      have hc := hcell k x hx
      have HOK := hid (nz_any x w)
      have HT := hid (some0_take hx)
      have HF := hid (fun h => some0_in hx h)
      obtain ⟨d, hd⟩ : ∃ d, (x != 0) = d := ⟨_, rfl⟩
      rw [hd] at HOK HT HF
      have hkc : (k : Int) < (n : Int) := by omega
      clear hx hcell hd hbl
      go_wp2_with fail
      refine HOK.out.mono ?_
      rintro e w1 ⟨rfl, rfl⟩
      clear HOK
      cases d with
      | true =>
        go_wp2
        go_ret
        exact ⟨⟨(k : Int), rfl, ⟨fun _ => HF.out trivial, fun _ => by omega⟩, by omega, by omega⟩, Below.refl _ _⟩
      | false =>
        go_wp2
        go_roundw
        case rel => exact ⟨k + 1, by omega, by go_num, hid (by rw [HT.out, HO.out]; rfl), trivial⟩
        case measure => simp [RowKit.intOf]; omega
    · obtain rfl : k = n := by omega
      have e : l.take k = l := List.take_of_length_le (by rw [HNN.out]; exact Nat.le_refl _)
      have ho := HO.out
      rw [e] at ho
      have HO' := hid ho
      clear ho
      go_wp2
      go_ret
      exact ⟨⟨-1, rfl, ⟨fun h => absurd h (by decide), fun h => by rw [HO'.out] at h; cases h⟩, by omega, by omega⟩, Below.refl _ _⟩
set_option maxHeartbeats 2000000 in
set_option maxRecDepth 100000 in
theorem some0_any (l : List Nat) (v : Value) (w : World) (hv : Byt w v l) (hl : l.length ≤ 100000) :
    Calls Try.prog 44 #[v, .func (.func 45) #[] #[]] w fun e w' => e = .returned (.bool (some0 l)) ∧ Below w.heap.size w w' := by
  have HI := hid (idxB_any l v w hv hl)
  clear hv
  go_enter Try.func44, Try.ntmps44
  go_wp2_with fail
  refine HI.out.mono ?_
  rintro e w1 ⟨⟨i, rfl, hi, h1, h2⟩, hb1⟩
  have HII : Hid (decide (0 ≤ i) = some0 l) := hid (by
    cases ho : some0 l
    · rw [ho] at hi; simpa using hi
    · rw [ho] at hi; simpa using hi)
  have HB1 := hid hb1
  clear hb1 hi HI
  go_wp2
  go_ret
  exact ⟨congrArg (fun b => Ending.returned (Value.bool b)) HII.out, HB1.out⟩
end Go.Proofs.Ytcmmkeadbedooaa
