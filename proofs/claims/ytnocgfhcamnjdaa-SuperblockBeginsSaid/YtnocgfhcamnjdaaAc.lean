/- Superblock: the greatest number of sectors. -/
import Derived.Test.YtnocgfhcamnjdaaAb
namespace Go.Proofs.Ytnocgfhcamnjdaa
open Go.RowKit Go.Lib

/-- The greatest number. -/
def grt (l : List Sect) : Nat := l.foldl (fun g s => max g (num4 s)) 0
theorem grt_snoc (l : List Sect) (s : Sect) : grt (l ++ [s]) = max (grt l) (num4 s) := by unfold grt; rw [List.foldl_append]; rfl
theorem num4_lt {s : Sect} (h : B8 s) : num4 s < 4294967296 := by
  have h0 := getD_lt h 0
  have h1 := getD_lt h 1
  have h2 := getD_lt h 2
  have h3 := getD_lt h 3
  unfold num4
  omega
set_option maxHeartbeats 2000000 in
set_option maxRecDepth 100000 in
theorem greatest_any (l : List Sect) (v : Value) (w : World) (hv : Sec w v l) (hl : l.length ≤ 1000000) :
    Calls Try.prog 37 #[v] w fun e w' => e = .returned (.int .u32 (grt l : Int)) ∧ Below w.heap.size w w' := by
  obtain ⟨A, c, rfl⟩ := sec_form hv
  obtain ⟨n, hn⟩ : ∃ n, l.length = n := ⟨_, rfl⟩
  have HV := hid hv
  rw [hn] at HV hl ⊢
  have HN := hid hn
  clear hv hn
  go_enter Try.func37, Try.ntmps37
  go_upto_region 3 with fail
  go_loopw [8, 3] (fun iv gv wr => ∃ i : Nat, i ≤ n ∧ iv = .int .i64 (i : Int) ∧ gv = .int .u32 (grt (l.take i) : Int) ∧ Hid (Below w.heap.size w wr)) (fun iv _ _ => n - (Go.RowKit.intOf iv).toNat)
  case atStart => exact ⟨0, Nat.zero_le _, rfl, rfl, hid (Below.refl _ _)⟩
  case round =>
    obtain ⟨i, hi, rfl, rfl, HB⟩ := hrel
    by_cases hin : i < n
    · have d0 : decide ((i : Int) < (n : Int)) = true := decide_eq_true (by omega)
      have hin' : (i : Int) < (n : Int) := by omega
      have hs := HV.out.below HB.out
      obtain ⟨b, off, rfl, hb, hc⟩ := arr_at1 hs.2 (by rw [List.length_map, HN.out]; omega)
      obtain ⟨s, hx⟩ : ∃ s, l[i]? = some s := ⟨l[i]'(by rw [HN.out]; exact hin), List.getElem?_eq_getElem _⟩
      have h8 := hs.1 s (List.mem_of_getElem? hx)
      have HC := hid (fun (t : Nat) (u : Value) (hu : (cSec s)[t]? = some u) => hc i _ (by rw [List.getElem?_map, hx]; rfl) t u hu)
      have HT := hid (show grt (l.take (i + 1)) = max (grt (l.take i)) (num4 s) from by rw [List.take_add_one, hx]; exact grt_snoc _ _)
      obtain ⟨s0, s1, s2, s3, s4, s5, s6, s7, rfl⟩ := list8 h8.1
      have H8 := hid h8.2
      have k0 : wr.cell? ⟨b, off + i * 8, none⟩ = some (.int .u8 (s0 : Int)) := HC.out 0 _ rfl
      have k1 : wr.cell? ⟨b, off + i * 8 + 1, none⟩ = some (.int .u8 (s1 : Int)) := HC.out 1 _ rfl
      have k2 : wr.cell? ⟨b, off + i * 8 + 2, none⟩ = some (.int .u8 (s2 : Int)) := HC.out 2 _ rfl
      have k3 : wr.cell? ⟨b, off + i * 8 + 3, none⟩ = some (.int .u8 (s3 : Int)) := HC.out 3 _ rfl
      have k4 : wr.cell? ⟨b, off + i * 8 + 4, none⟩ = some (.int .u8 (s4 : Int)) := HC.out 4 _ rfl
      have k5 : wr.cell? ⟨b, off + i * 8 + 5, none⟩ = some (.int .u8 (s5 : Int)) := HC.out 5 _ rfl
      have k6 : wr.cell? ⟨b, off + i * 8 + 6, none⟩ = some (.int .u8 (s6 : Int)) := HC.out 6 _ rfl
      have k7 : wr.cell? ⟨b, off + i * 8 + 7, none⟩ = some (.int .u8 (s7 : Int)) := HC.out 7 _ rfl
      clear hs hx h8 hc
      go_upto_region 5 with fail
      clear k0 k1 k2 k3 k4 k5 k6 k7
      obtain ⟨Wc, hWc⟩ : ∃ X, wr.alloc (.cells #[.int .u8 (s0 : Int), .int .u8 (s1 : Int), .int .u8 (s2 : Int), .int .u8 (s3 : Int), .int .u8 (s4 : Int), .int .u8 (s5 : Int), .int .u8 (s6 : Int), .int .u8 (s7 : Int)] 57) = X := ⟨_, rfl⟩
      obtain ⟨p5, hp5⟩ : ∃ p, wr.heap.size = p := ⟨_, rfl⟩
      have hbc : Below wr.heap.size wr Wc := by rw [← hWc]; exact al1 _ _
      have hxc : Wc.heap[p5]? = some (.cells #[.int .u8 (s0 : Int), .int .u8 (s1 : Int), .int .u8 (s2 : Int), .int .u8 (s3 : Int), .int .u8 (s4 : Int), .int .u8 (s5 : Int), .int .u8 (s6 : Int), .int .u8 (s7 : Int)] 57) := by rw [← hWc, ← hp5]; exact heap_alloc_new _ _
      rw [hWc, hp5]
      have HBc : Hid (Below w.heap.size w Wc) := hid (HB.out.trans (hbc.mono HB.out.size))
      have f0 := cell_of_row _ _ 0 _ _ _ hxc
      have f1 := cell_of_row _ _ 1 _ _ _ hxc
      have f2 := cell_of_row _ _ 2 _ _ _ hxc
      have f3 := cell_of_row _ _ 3 _ _ _ hxc
      have f4 := cell_of_row _ _ 4 _ _ _ hxc
      have f5 := cell_of_row _ _ 5 _ _ _ hxc
      have f6 := cell_of_row _ _ 6 _ _ _ hxc
      have f7 := cell_of_row _ _ 7 _ _ _ hxc
      have HNU := hid (number_any s0 s1 s2 s3 s4 s5 s6 s7 H8.out Wc)
      obtain ⟨q, hq⟩ : ∃ q, num4 [s0, s1, s2, s3, s4, s5, s6, s7] = q := ⟨_, rfl⟩
      obtain ⟨g, hg⟩ : ∃ q, grt (l.take i) = q := ⟨_, rfl⟩
      rw [hq] at HNU HT
      rw [hg] at HT ⊢
      clear hWc hp5 hbc hxc hq hg
      go_wp2_with (go_at_call 46; refine HNU.out.mono ?_; rintro e X1 ⟨rfl, hb1⟩; have HB1 : Hid (Below w.heap.size w X1) := hid (HBc.out.trans (hb1.mono HBc.out.size)); clear hb1)
      go_roundw
      case rel => exact ⟨i + 1, by omega, by go_num, by rw [HT.out]; first | rfl | (congr 1; omega), HB1⟩
      case measure => simp [Go.RowKit.intOf]; omega
    · obtain rfl : n = i := by omega
      have d0 : decide ((n : Int) < (n : Int)) = false := decide_eq_false (by omega)
      have HTA := hid (show l.take n = l from List.take_of_length_le (by rw [HN.out]; exact Nat.le_refl _))
      go_wp2_with fail
      go_ret
      exact ⟨congrArg (fun z : List Sect => Ending.returned (Value.int .u32 (grt z : Int))) HTA.out, HB.out⟩
end Go.Proofs.Ytnocgfhcamnjdaa
