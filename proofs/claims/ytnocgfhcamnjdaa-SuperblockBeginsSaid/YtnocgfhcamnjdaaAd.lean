/- Superblock: the bytes that sectors contain beside their numbers. -/
import Derived.Test.YtnocgfhcamnjdaaAc
namespace Go.Proofs.Ytnocgfhcamnjdaa
open Go.RowKit Go.Lib

/-- The bytes beside the numbers. -/
def dat (l : List Sect) : List Nat := (l.map fun s => s.drop 4).flatten
theorem dat_snoc (l : List Sect) (s : Sect) : dat (l ++ [s]) = dat l ++ s.drop 4 := by unfold dat; simp
theorem dat_len {l : List Sect} (h : Secs l) : (dat l).length = 4 * l.length := by
  induction l with
  | nil => rfl
  | cons s r ih =>
    have h1 := (h s (List.mem_cons_self ..)).1
    have h2 := ih (fun x hx => h x (List.mem_cons_of_mem _ hx))
    unfold dat at h2 ⊢
    rw [List.map_cons, List.flatten_cons, List.length_append, h2, List.length_drop, h1, List.length_cons]
    omega
theorem make22b (W : World) (n : Nat) (hn : n ≤ 1000000) : (Instr.makeSlice 22 (.int .i64 0) (.int .i64 n)).run Try.prog W = .ok (.slice (some ⟨W.heap.size, 0, none⟩) 0 n) (W.alloc (.cells (madeCells #[.int .u8 0] n) 5)) := by
  obtain ⟨i0, hi, hz0, hz1, hz2⟩ := info_parts info5
  have h := run_make (P := Try.prog) W 22 5 i0 (.int .u8 0) Try.underlying22 hi hz0 .i64 .i64 0 (n : Int) (by omega) (by omega) (by rw [hz2]; omega) (by omega)
  rw [hz1, Int.toNat_natCast, Nat.mul_one] at h
  exact h
set_option maxHeartbeats 2000000 in
set_option maxRecDepth 100000 in
theorem data_any (l : List Sect) (v : Value) (w : World) (hv : Sec w v l) (hl : l.length ≤ 1000) :
    Calls Try.prog 45 #[v] w fun e w' => ∃ u, e = .returned u ∧ w'.ownsRow w.heap.size 5 1 u (4 * l.length) ((dat l).map byteV) ∧ Below w.heap.size w w' := by
  obtain ⟨i0, hi, hz0, hz1, hz2⟩ := info_parts info5
  obtain ⟨A, c, rfl⟩ := sec_form hv
  obtain ⟨n, hn⟩ : ∃ n, l.length = n := ⟨_, rfl⟩
  have HV := hid hv
  rw [hn] at HV hl ⊢
  have HN := hid hn
  clear hv hn
  have hmul : IntKind.i64.wrap ((n : Int) * 4) = ((n * 4 : Nat) : Int) := by rw [IntKind.wrap_i64]; omega
  have hmk : ∀ W, (Instr.makeSlice 22 (.int .i64 0) (.int .i64 ((n : Int) * 4))).run Try.prog W = .ok (.slice (some ⟨W.heap.size, 0, none⟩) 0 (n * 4)) (W.alloc (.cells (madeCells #[.int .u8 0] (n * 4)) 5)) := fun W => by
    rw [show (n : Int) * 4 = ((n * 4 : Nat) : Int) by omega]
    exact make22b W (n * 4) (by omega)
  go_enter Try.func45, Try.ntmps45
  go_upto_region 2 with fail
  obtain ⟨W1, hW1⟩ : ∃ X, w.alloc (.cells (madeCells #[.int .u8 0] (n * 4)) 5) = X := ⟨_, rfl⟩
  obtain ⟨p3, hp3⟩ : ∃ p, w.heap.size = p := ⟨_, rfl⟩
  have HB1 : Hid (Below w.heap.size w W1) := hid (by rw [← hW1]; exact al1 _ _)
  have HO1 : Hid (W1.ownsRow w.heap.size 5 1 (.slice (some ⟨p3, 0, none⟩) 0 (n * 4)) 0 []) := hid (by
    rw [← hW1, ← hp3]
    exact ⟨rfl, .inr ⟨w.heap.size, n * 4, _, rfl, Nat.le_refl _, heap_alloc_new w _, Nat.zero_le _, by unfold maxLen; omega, by rw [size_madeCells]; omega, rfl⟩⟩)
  rw [hW1]
  (try rw [hp3])
  clear hW1 hmk hmul hp3
  go_upto_region 3 with fail
  go_loopw [12, 3] (fun iv lv wr => ∃ (i : Nat) (L : Value), i ≤ n ∧ iv = .int .i64 (i : Int) ∧ L = lv ∧ Hid (wr.ownsRow w.heap.size 5 1 L (4 * i) ((dat (l.take i)).map byteV)) ∧ Hid (Below w.heap.size w wr)) (fun iv _ _ => n - (Go.RowKit.intOf iv).toNat)
  case atStart => exact ⟨0, _, Nat.zero_le _, rfl, rfl, HO1, HB1⟩
  case round =>
    obtain ⟨i, L, hi', rfl, rfl, HO, HB⟩ := hrel
    by_cases hin : i < n
    · have d0 : decide ((i : Int) < (n : Int)) = true := decide_eq_true (by omega)
      have hin' : (i : Int) < (n : Int) := by omega
      have hs := HV.out.below HB.out
      obtain ⟨b, off, rfl, hb, hc⟩ := arr_at1 hs.2 (by rw [List.length_map, HN.out]; omega)
      obtain ⟨s, hx⟩ : ∃ s, l[i]? = some s := ⟨l[i]'(by rw [HN.out]; exact hin), List.getElem?_eq_getElem _⟩
      have h8 := hs.1 s (List.mem_of_getElem? hx)
      have HC := hid (fun (t : Nat) (u : Value) (hu : (cSec s)[t]? = some u) => hc i _ (by rw [List.getElem?_map, hx]; rfl) t u hu)
      have HT := hid (show dat (l.take (i + 1)) = dat (l.take i) ++ s.drop 4 from by rw [List.take_add_one, hx]; exact dat_snoc _ _)
      obtain ⟨s0, s1, s2, s3, s4, s5, s6, s7, rfl⟩ := list8 h8.1
      have k0 : wr.cell? ⟨b, off + i * 8, none⟩ = some (.int .u8 (s0 : Int)) := HC.out 0 _ rfl
      have k1 : wr.cell? ⟨b, off + i * 8 + 1, none⟩ = some (.int .u8 (s1 : Int)) := HC.out 1 _ rfl
      have k2 : wr.cell? ⟨b, off + i * 8 + 2, none⟩ = some (.int .u8 (s2 : Int)) := HC.out 2 _ rfl
      have k3 : wr.cell? ⟨b, off + i * 8 + 3, none⟩ = some (.int .u8 (s3 : Int)) := HC.out 3 _ rfl
      have k4 : wr.cell? ⟨b, off + i * 8 + 4, none⟩ = some (.int .u8 (s4 : Int)) := HC.out 4 _ rfl
      have k5 : wr.cell? ⟨b, off + i * 8 + 5, none⟩ = some (.int .u8 (s5 : Int)) := HC.out 5 _ rfl
      have k6 : wr.cell? ⟨b, off + i * 8 + 6, none⟩ = some (.int .u8 (s6 : Int)) := HC.out 6 _ rfl
      have k7 : wr.cell? ⟨b, off + i * 8 + 7, none⟩ = some (.int .u8 (s7 : Int)) := HC.out 7 _ rfl
      clear hs hx h8 hc
      go_upto_region 5 with fail
      clear k0 k1 k2 k3 k4 k5 k6 k7
      obtain ⟨Wc, hWc⟩ : ∃ X, wr.alloc (.cells #[.int .u8 (s0 : Int), .int .u8 (s1 : Int), .int .u8 (s2 : Int), .int .u8 (s3 : Int), .int .u8 (s4 : Int), .int .u8 (s5 : Int), .int .u8 (s6 : Int), .int .u8 (s7 : Int)] 57) = X := ⟨_, rfl⟩
      obtain ⟨p5, hp5⟩ : ∃ p, wr.heap.size = p := ⟨_, rfl⟩
      have hbc : Below wr.heap.size wr Wc := by rw [← hWc]; exact al1 _ _
      have hxc : Wc.heap[p5]? = some (.cells #[.int .u8 (s0 : Int), .int .u8 (s1 : Int), .int .u8 (s2 : Int), .int .u8 (s3 : Int), .int .u8 (s4 : Int), .int .u8 (s5 : Int), .int .u8 (s6 : Int), .int .u8 (s7 : Int)] 57) := by rw [← hWc, ← hp5]; exact heap_alloc_new _ _
      rw [hWc, hp5]
      have HBc : Hid (Below w.heap.size w Wc) := hid (HB.out.trans (hbc.mono HB.out.size))
      have hown : Wc.ownsRow w.heap.size 5 1 L (4 * i) ((dat (l.take i)).map byteV) := own_keep HO.out (keep_below hbc)
      have hws := HBc.out.size
      have hnc : ∀ (t : Nat) (u : Value), ([s4, s5, s6, s7].map byteV)[t]? = some u → Wc.cell? ((⟨p5, 4, none⟩ : Addr).add t) = some u := fun t u hu => by
        rw [add_at, cell_of_row _ _ _ _ _ _ hxc]
        match t, hu with
        | 0, hu => exact hu
        | 1, hu => exact hu
        | 2, hu => exact hu
        | 3, hu => exact hu
        | t + 4, hu => simp at hu
      clear hWc hp5 hbc
      go_wp2_with (at_builtin; refine wpList_append_own _ rfl _ _ 22 rfl w.heap.size 5 i0 _ 1 1 Try.underlying22 hi hz0 hz1 hz2 rfl (by decide) _ _ _ rfl hown ⟨p5, 4, none⟩ 4 4 ([s4, s5, s6, s7].map byteV) rfl rfl hnc (byteV_one _) (by unfold maxLen; omega) (by omega) hws ?_)
      intro v' w2 hown2 hgrow _
      have HB2 : Hid (Below w.heap.size w w2) := hid (HBc.out.grown hgrow hws (fun k hk => (hown.lt k hk).1))
      have HO2 := hid hown2
      clear hown2 hgrow hown hnc hxc
      go_wp2_with fail
      go_roundw
      case rel =>
        refine ⟨i + 1, v', by omega, by go_num, rfl, hid ?_, HB2⟩
        rw [HT.out, List.map_append, show 4 * (i + 1) = 4 * i + 4 by omega]
        exact HO2.out
      case measure => simp [Go.RowKit.intOf]; omega
    · obtain rfl : n = i := by omega
      have d0 : decide ((n : Int) < (n : Int)) = false := decide_eq_false (by omega)
      have HTA := hid (show l.take n = l from List.take_of_length_le (by rw [HN.out]; exact Nat.le_refl _))
      rw [HTA.out] at HO
      go_wp2_with fail
      go_ret
      exact ⟨_, rfl, HO.out, HB.out⟩
end Go.Proofs.Ytnocgfhcamnjdaa
