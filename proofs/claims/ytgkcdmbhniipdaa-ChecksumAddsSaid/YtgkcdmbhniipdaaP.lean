/- The law ChecksumAdds is walked. -/
import Derived.Test.YtgkcdmbhniipdaaO
import Derived.WalkLawsBesides
import Derived.WalkSpells
import Derived.Deep.RegionHeld3
import Derived.Deep.AppendLies
namespace Go.Proofs.Ytgkcdmbhniipdaa
open Go.RowKit Go.Lib

/-- The exclusive or of the first k bytes. -/
def x3 (x y z : List Nat) (k : Nat) : List Nat := (List.range k).map fun i => (x.getD i 0 ^^^ y.getD i 0) ^^^ z.getD i 0
theorem x3_succ (x y z : List Nat) (k : Nat) : x3 x y z (k + 1) = x3 x y z k ++ [(x.getD k 0 ^^^ y.getD k 0) ^^^ z.getD k 0] := by unfold x3; rw [List.range_succ, List.map_append]; rfl
theorem x3_length (x y z : List Nat) (k : Nat) : (x3 x y z k).length = k := by unfold x3; simp
theorem x3_B8 {x y z : List Nat} (k : Nat) (hx : B8 x) (hy : B8 y) (hz : B8 z) : B8 (x3 x y z k) := fun b hb => by
  unfold x3 at hb
  obtain ⟨i, _, rfl⟩ := List.mem_map.1 hb
  exact Nat.xor_lt_two_pow (n := 8) (Nat.xor_lt_two_pow (n := 8) (getD_B8 hx i) (getD_B8 hy i)) (getD_B8 hz i)
theorem x3_sum {x y z : List Nat} {n : Nat} (hx : n ≤ x.length) (hy : n ≤ y.length) (hz : n ≤ z.length) : sum0 (x3 x y z n) = (sum0 (x.take n) ^^^ sum0 (y.take n)) ^^^ sum0 (z.take n) := by
  rw [← sum_three (by rw [List.length_take, List.length_take]; omega) (by rw [List.length_take, List.length_take]; omega)]
  congr 1
  apply List.ext_getElem?
  intro i
  unfold x3
  by_cases hi : i < n
  · rw [List.getElem?_map, List.getElem?_range hi, List.getElem?_zipWith, List.getElem?_zipWith, List.getElem?_take, List.getElem?_take, List.getElem?_take, if_pos hi, if_pos hi, if_pos hi]
    simp [List.getD, List.getElem?_eq_getElem (show i < x.length by omega), List.getElem?_eq_getElem (show i < y.length by omega), List.getElem?_eq_getElem (show i < z.length by omega)]
  · rw [List.getElem?_eq_none (by simp; omega), List.getElem?_eq_none (by simp; omega)]
theorem byt_take {w : World} {A : Option Addr} {cap n : Nat} {x : List Nat} (h : Byt w (.slice A x.length cap) x) (hn : n ≤ x.length) : Byt w (.slice A n cap) (x.take n) := by
  obtain ⟨h8, A', cap', e, h1, h2, b, off, hA, hc⟩ := h
  injection e with e1 e2 e3
  subst e1 e3
  refine ⟨fun y hy => h8 y (List.mem_of_mem_take hy), A, cap, by rw [List.length_take, Nat.min_eq_left hn], by rw [List.length_take]; omega, h2, b, off, fun h => hA (by rw [List.length_take] at h; omega), fun i y hy => ?_⟩
  rw [List.getElem?_take] at hy
  split at hy
  · exact hc i y hy
  · cases hy

theorem add_zero' (A : Option Addr) : A.map (fun a => a.add 0) = A := by
  cases A with
  | none => rfl
  | some a => simp [Addr.add]
theorem run_slice_to (A : Option Addr) (n c k : Nat) (hk : k ≤ c) (W : World) : (Instr.slice 22 (.slice A n c) none (some (.int .i64 (k : Int))) none).run Try.prog W = .ok (.slice A k c) W := by
  simp [Instr.slice, run_underlying Try.underlying22, Instr.sliceBounds, Instr.sliceBound, asIntOf, add_zero', hk]
theorem byt_cap {w : World} {A : Option Addr} {n c : Nat} {l : List Nat} (h : Byt w (.slice A n c) l) : l.length ≤ c := by
  obtain ⟨_, A', c', e, h1, _⟩ := h
  injection e with _ _ e3
  omega
theorem run_min4 (a b c d n : Nat) (hn : min (min (min a b) c) d = n) (W : World) : (Builtin.min_ #[3, 3, 3, 3] 3 #[.int .i64 (a : Int), .int .i64 (b : Int), .int .i64 (c : Int), .int .i64 (d : Int)]).run Try.prog W = .ok (.int .i64 (n : Int)) W := by
  have e : (if (d : Int) < (if (c : Int) < (if (b : Int) < (a : Int) then (b : Int) else a) then (c : Int) else (if (b : Int) < (a : Int) then (b : Int) else a)) then (d : Int) else (if (c : Int) < (if (b : Int) < (a : Int) then (b : Int) else a) then (c : Int) else (if (b : Int) < (a : Int) then (b : Int) else a))) = (n : Int) := by
    subst hn
    by_cases h1 : (b : Int) < a
    · rw [if_pos h1]
      by_cases h2 : (c : Int) < b
      · rw [if_pos h2]
        by_cases h3 : (d : Int) < c
        · rw [if_pos h3]; omega
        · rw [if_neg h3]; omega
      · rw [if_neg h2]
        by_cases h3 : (d : Int) < b
        · rw [if_pos h3]; omega
        · rw [if_neg h3]; omega
    · rw [if_neg h1]
      by_cases h2 : (c : Int) < a
      · rw [if_pos h2]
        by_cases h3 : (d : Int) < c
        · rw [if_pos h3]; omega
        · rw [if_neg h3]; omega
      · rw [if_neg h2]
        by_cases h3 : (d : Int) < a
        · rw [if_pos h3]; omega
        · rw [if_neg h3]; omega
  rw [← e]
  simp [Builtin.min_, Builtin.min2]

set_option maxHeartbeats 2000000 in
theorem adds_walk (x y z : List Nat) (vx vy vz : Value) (w : World) (hx : Byt w vx x) (hy : Byt w vy y) (hz : Byt w vz z) :
    Calls Try.prog 9 #[vx, vy, vz] w fun e w' => e = .returned (.bool true) ∧ Below w.heap.size w w' := by
  have hlx := byt_len hx
  have hly := byt_len hy
  have hlz := byt_len hz
  have HX := hid hx
  have HY := hid hy
  have HZ := hid hz
  obtain ⟨A, ca, rfl⟩ := byt_form hx
  obtain ⟨C, cc, rfl⟩ := byt_form hy
  obtain ⟨E, ce, rfl⟩ := byt_form hz
  clear hx hy hz
  obtain ⟨n, hn⟩ : ∃ n, min (min (min x.length y.length) z.length) 2000 = n := ⟨_, rfl⟩
  have hm := run_min4 x.length y.length z.length 2000 n hn
  have hnx : n ≤ x.length := by omega
  have hny : n ≤ y.length := by omega
  have hnz : n ≤ z.length := by omega
  have hn2 : n ≤ 2000 := by omega
  rw [show ((2000 : Nat) : Int) = 2000 from rfl] at hm
  clear hn
  go_enter Try.func9, Try.ntmps9
  go_wp2
  go_loopw [8, 9] (fun v i wr => ∃ k : Nat, k ≤ n ∧ i = .int .i64 (k : Int) ∧ Hid (wr.ownsRow w.heap.size 5 1 v k ((x3 x y z k).map byteV)) ∧ Hid (Below w.heap.size w wr)) (fun _ i _ => n - (intOf i).toNat)
  case atStart => exact ⟨0, by omega, rfl, hid (World.ownsRow_nil _ _ _ _), hid (Below.refl _ _)⟩
  case round =>
    clear hm
    obtain ⟨k, hk, rfl, HO, HB⟩ := hrel
    obtain ⟨av, cv, rfl⟩ := own_form HO.out
    by_cases hlt : k < n
    · obtain ⟨hx8, A', cap', e, _, _, b1, o1, hA1, hc1⟩ := HX.out
      injection e with e1 e2 e3
      subst e1 e3
      obtain ⟨hA1, hl1⟩ := hA1 (by omega)
      subst hA1
      obtain ⟨hy8, A', cap', e, _, _, b2, o2, hA2, hc2⟩ := HY.out
      injection e with e1 e2 e3
      subst e1 e3
      obtain ⟨hA2, hl2⟩ := hA2 (by omega)
      subst hA2
      obtain ⟨hz8, A', cap', e, _, _, b3, o3, hA3, hc3⟩ := HZ.out
      injection e with e1 e2 e3
      subst e1 e3
      obtain ⟨hA3, hl3⟩ := hA3 (by omega)
      subst hA3
      have hx1 := (HB.out.cell (p := ⟨b1, o1 + k, none⟩) hl1).trans (hc1 k _ (List.getElem?_eq_getElem (show k < x.length by omega)))
      have hy1 := (HB.out.cell (p := ⟨b2, o2 + k, none⟩) hl2).trans (hc2 k _ (List.getElem?_eq_getElem (show k < y.length by omega)))
      have hz1 := (HB.out.cell (p := ⟨b3, o3 + k, none⟩) hl3).trans (hc3 k _ (List.getElem?_eq_getElem (show k < z.length by omega)))
      have HN := hid (x3_succ x y z k)
      have ex : x[k]'(by omega) = x.getD k 0 := by simp [List.getD, List.getElem?_eq_getElem (show k < x.length by omega)]
      have ey : y[k]'(by omega) = y.getD k 0 := by simp [List.getD, List.getElem?_eq_getElem (show k < y.length by omega)]
      have ez : z[k]'(by omega) = z.getD k 0 := by simp [List.getD, List.getElem?_eq_getElem (show k < z.length by omega)]
      have ha := getD_B8 hx8 k
      have hb := getD_B8 hy8 k
      have hc := getD_B8 hz8 k
      rw [ex] at hx1
      rw [ey] at hy1
      rw [ez] at hz1
      clear ex ey ez hc1 hc2 hc3 hx8 hy8 hz8
      obtain ⟨a, hae⟩ : ∃ a, x.getD k 0 = a := ⟨_, rfl⟩
      obtain ⟨b, hbe⟩ : ∃ b, y.getD k 0 = b := ⟨_, rfl⟩
      obtain ⟨c, hce⟩ : ∃ c, z.getD k 0 = c := ⟨_, rfl⟩
      rw [hae, hbe, hce] at HN
      rw [hae] at hx1 ha
      rw [hbe] at hy1 hb
      rw [hce] at hz1 hc
      clear hae hbe hce
      have hab : a ^^^ b < 256 := Nat.xor_lt_two_pow (n := 8) ha hb
      have habc : (a ^^^ b) ^^^ c < 256 := Nat.xor_lt_two_pow (n := 8) hab hc
      have hxo1 := u8_xor_nat a b ha hb
      have hxo2 := u8_xor_nat (a ^^^ b) c hab hc
      have hi0 : (0 : Int) ≤ (k : Int) := by omega
      have hi1 : (k : Int) < (x.length : Int) := by omega
      have hi2 : (k : Int) < (y.length : Int) := by omega
      have hi3 : (k : Int) < (z.length : Int) := by omega
      obtain ⟨i0, hif, hz0, hz1', hz2⟩ := info_parts info5
      have hob : ∀ q, (Value.slice av k cv).ownBlock = some q → w.heap.size ≤ q := fun q hq => (HO.out.lt q hq).1
      have ak1 : (Value.slice av k cv).ownBlock ≠ some b1 := fun h => by have := hob _ h; omega
      have ak2 : (Value.slice av k cv).ownBlock ≠ some b2 := fun h => by have := hob _ h; omega
      have ak3 : (Value.slice av k cv).ownBlock ≠ some b3 := fun h => by have := hob _ h; omega
      have hBs := HB.out.size
      clear hob
      go_wp2_with fail
      go_region_held3 (fun W => W.cell? ⟨b1, o1 + k, none⟩ = some (.int .u8 (a : Int)) ∧ W.cell? ⟨b2, o2 + k, none⟩ = some (.int .u8 (b : Int)) ∧ W.cell? ⟨b3, o3 + k, none⟩ = some (.int .u8 (c : Int)))
        (first
          | go_keep
          | (go_split_ands
             refine ⟨?_, ?_, ?_⟩
             · (rw [hgrow.cell_far _ (by simp; omega) (Ne.symm ak1)]; assumption)
             · (rw [hgrow.cell_far _ (by simp; omega) (Ne.symm ak2)]; assumption)
             · (rw [hgrow.cell_far _ (by simp; omega) (Ne.symm ak3)]; assumption)))
        ((refine step_append_lies _ (by rfl) _ _ _ (by rfl) w.heap.size 5 i0 _ 1 1 Try.underlying22 hif hz0 hz1' hz2 rfl (by omega) (.slice av k cv) k _ (by rfl) ((HO.out.alloc _).drew) ⟨wr.heap.size, 0, none⟩ 1 1 [.int .u8 ((a ^^^ b ^^^ c : Nat) : Int)] (by rfl) (by rfl) (World.news_of_block (cs := #[.int .u8 ((a ^^^ b ^^^ c : Nat) : Int)]) (t := 5) (fr := (0, 0)) (heap_alloc_new wr _)) (by simp [Value.oneCell']) (by omega) (by unfold maxLen; omega) (by omega) (by simp; omega) (wr.heap.size + 1) (by simp) ?_; intro gg cap w1 hown1 hgrow hat hlt1))
      have HO1 := hid hown1
      have HG1 := hid hgrow
      clear hown1 hgrow
      go_wp2
      go_roundw
      case rel =>
        exact ⟨k + 1, by omega, by go_num, hid (by rw [HN.out, List.map_append]; exact HO1.out), hid (((HB.out.alloc hBs _).drew).grown HG1.out (by simp; omega) (fun q hq => (HO.out.lt q hq).1))⟩
      case measure => simp [intOf]; omega
    · obtain rfl : k = n := by omega
      have h8 := x3_B8 k HX.out.1 HY.out.1 HZ.out.1
      have HV := hid (byt_of_own HO.out h8)
      have hs1 : sum0 (x.take k) < 4294967296 := upd_lt (by decide) (fun b hb => HX.out.1 b (List.mem_of_mem_take hb))
      have hs2 : sum0 (y.take k) < 4294967296 := upd_lt (by decide) (fun b hb => HY.out.1 b (List.mem_of_mem_take hb))
      have hs3 : sum0 (z.take k) < 4294967296 := upd_lt (by decide) (fun b hb => HZ.out.1 b (List.mem_of_mem_take hb))
      have hsum := x3_sum hnx hny hnz
      have HS0 := hid (fun (w0 : World) (h : Below wr.heap.size wr w0) => sum_any (x3 x y z k) (.slice av k cv) w0 (HV.out.below h))
      have HS1 := hid (fun (w0 : World) (h : Below w.heap.size w w0) => sum_any (x.take k) (.slice A k ca) w0 ((byt_take HX.out hnx).below h))
      have HS2 := hid (fun (w0 : World) (h : Below w.heap.size w w0) => sum_any (y.take k) (.slice C k cc) w0 ((byt_take HY.out hny).below h))
      have HS3 := hid (fun (w0 : World) (h : Below w.heap.size w w0) => sum_any (z.take k) (.slice E k ce) w0 ((byt_take HZ.out hnz).below h))
      obtain ⟨s1, e1⟩ : ∃ s1, sum0 (x.take k) = s1 := ⟨_, rfl⟩
      obtain ⟨s2, e2⟩ : ∃ s2, sum0 (y.take k) = s2 := ⟨_, rfl⟩
      obtain ⟨s3, e3⟩ : ∃ s3, sum0 (z.take k) = s3 := ⟨_, rfl⟩
      rw [e1, e2, e3] at hsum
      rw [hsum] at HS0
      rw [e1] at HS1 hs1
      rw [e2] at HS2 hs2
      rw [e3] at HS3 hs3
      have hs12 : s1 ^^^ s2 < 4294967296 := Nat.xor_lt_two_pow (n := 32) hs1 hs2
      have hxo1 := u32_xor_nat s1 s2 hs1 hs2
      have hxo2 := u32_xor_nat (s1 ^^^ s2) s3 hs12 hs3
      have hBr := hid HB.out
      clear e1 e2 e3 hsum h8 hs1 hs2 hs3 hs12 HO
      have hsl1 := run_slice_to A x.length ca k (Nat.le_trans hnx (byt_cap HX.out))
      have hsl2 := run_slice_to C y.length cc k (Nat.le_trans hny (byt_cap HY.out))
      have hsl3 := run_slice_to E z.length ce k (Nat.le_trans hnz (byt_cap HZ.out))
      go_wp2_with fail
      go_region_held3 (fun W => W.heap.size = W.heap.size)
        (first | rfl | go_keep)
        (first
          | (go_at_call 12; refine (awake_any _).mono ?_; rintro e w3 ⟨rfl, hb3⟩; have HBA : Hid (Below wr.heap.size wr w3) := hid ⟨hb3.os, hb3.tape, hb3.output, hb3.size, hb3.block⟩; have HBB := hid (below_both HB.out HBA.out); clear hb3)
          | (go_at_call 13; ((with_reducible refine (HS0.out _ HBA.out).mono ?_); rintro e w4 ⟨rfl, hb4⟩; have HB4 := hid (below_both HBB.out hb4); clear hb4))
          | (go_at_call 13; ((with_reducible refine (HS1.out _ HB4.out).mono ?_); rintro e w5 ⟨rfl, hb5⟩; have HB5 := hid (below_both HB4.out hb5); clear hb5))
          | (go_at_call 13; ((with_reducible refine (HS2.out _ HB5.out).mono ?_); rintro e w6 ⟨rfl, hb6⟩; have HB6 := hid (below_both HB5.out hb6); clear hb6))
          | (go_at_call 13; ((with_reducible refine (HS3.out _ HB6.out).mono ?_); rintro e w7 ⟨rfl, hb7⟩; have HB7 := hid (below_both HB6.out hb7); clear hb7)))
      go_wp2
      go_ret
      exact ⟨rfl, HB7.out⟩
end Go.Proofs.Ytgkcdmbhniipdaa
