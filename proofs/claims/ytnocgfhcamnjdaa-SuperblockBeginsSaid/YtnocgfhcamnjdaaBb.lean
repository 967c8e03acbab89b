/- Superblock: awake 10. -/
import Derived.Test.YtnocgfhcamnjdaaBa
namespace Go.Proofs.Ytnocgfhcamnjdaa
open Go.RowKit Go.Lib

theorem new_20 (w : World) : Calls Try.prog 24 #[.int .i64 20] w fun e w' => ∃ A c B d, e = .returned (.tuple #[.agg #[.slice A 20 c, .slice B 0 d], .int .i64 0]) ∧ Dk w' (.agg #[.slice A 20 c, .slice B 0 d]) (List.replicate 20 zs) [] ∧ Below w.heap.size w w' := by
  refine (new_any 20 w).mono ?_
  rintro e w' ⟨⟨k, hk, hb, v, rfl, ho⟩ | ⟨hb, _⟩, hbl⟩
  · obtain rfl : k = 20 := by omega
    have hd := dk_own ho (rep_secs 20) (fun x hx => by cases hx)
    obtain ⟨sv, cv, rfl, h1, h2, h3⟩ := hd
    obtain ⟨A, c, rfl⟩ := sec_form h1
    obtain ⟨B, d, rfl⟩ := cas_form h3
    exact ⟨A, c, B, d, rfl, ⟨_, _, rfl, h1, h2, h3⟩, hbl⟩
  · exact absurd hb (by decide)
theorem byt_lit {w : World} {g : Nat} {p : List Nat} (h : w.heap[g]? = some (.cells (p.map byteV).toArray 5)) (h8 : B8 p) (hm : p.length ≤ 1000000) : Byt w (.slice (some ⟨g, 0, none⟩) p.length p.length) p := by
  refine ⟨h8, nilOk_some _ _ _, arr_at (fun r hr => ?_) (by rw [List.length_map]) (Nat.le_refl _) (by unfold maxLen; omega) h (fun k u hu => ?_)⟩
  · obtain ⟨x, _, rfl⟩ := List.mem_map.1 hr; rfl
  · have e : (p.map fun x => [byteV x]).flatten = p.map byteV := by
      clear h h8 hm hu
      induction p with
      | nil => rfl
      | cons a p ih => rw [List.map_cons, List.flatten_cons, ih]; rfl
    rw [e] at hu
    simpa using hu
theorem secs_cell {w : World} {A : Option Addr} {n c : Nat} {l : List Sect} (h : Sec w (.slice A n c) l) (hp : 0 < l.length) : ∃ b off, A = some ⟨b, off, none⟩ ∧ ∀ (i j : Nat) (s : Sect) (u : Value), l[i]? = some s → (cSec s)[j]? = some u → w.cell? ⟨b, off + i * 8 + j, none⟩ = some u := by
  obtain ⟨b, off, hA, _, hc⟩ := arr_at1 h.2 (by rw [List.length_map]; exact hp)
  exact ⟨b, off, hA, fun i j s u hs hu => hc i _ (by rw [List.getElem?_map, hs]; rfl) j u hu⟩
theorem made_at {w : World} {f : Nat} {args : Array Value} {er er' : Int} {C C' : List (Int × Int × List Sect)} (n : Nat) (h : Calls Try.prog f args w (MadeOps w er C)) (h1 : er = er') (h2 : C = C') (h3 : C'.length = n) : Calls Try.prog f args w fun e w' => ∃ A c l, e = .returned (.tuple #[.slice A n c, .int .i64 er']) ∧ OpsA w' (.slice A n c) l ∧ NilOk (.slice A n c) ∧ l.map opC = C' ∧ Below w.heap.size w w' := by
  subst h1 h2 h3
  exact h.mono (fun e w' h => made_open h)
set_option maxHeartbeats 4000000 in
set_option maxRecDepth 100000 in
theorem awake_any (w : World) : Calls Try.prog 10 #[] w (TrueQ w) := by
  go_enter Try.func10, Try.ntmps10
  go_upto_region 2 with (go_at_call 24; refine (new_20 w).mono ?_; rintro e X1 ⟨A1, c1, B1, d1, rfl, hd1, hb1⟩; have HD1 := hid hd1; have HB1 := hid hb1; clear hd1 hb1)
  obtain ⟨W2, hW2⟩ : ∃ X, X1.alloc (.cells #[.slice A1 20 c1, .slice B1 0 d1] 35) = X := ⟨_, rfl⟩
  obtain ⟨g, hg⟩ : ∃ q, X1.heap.size = q := ⟨_, rfl⟩
  have hb2 : Below X1.heap.size X1 W2 := by rw [← hW2]; exact al1 _ _
  have HX2 : Hid (W2.heap[g]? = some (.cells #[.slice A1 20 c1, .slice B1 0 d1] 35)) := hid (by rw [← hW2, ← hg]; exact heap_alloc_new _ _)
  have HB2 := hid (below_both HB1.out hb2)
  have HD2 := hid (HD1.out.below hb2)
  have HG : Hid (w.heap.size ≤ g) := hid (by rw [← hg]; exact HB1.out.size)
  rw [hW2, hg]
  clear hW2 hg hb2 HD1 HB1
  have HF := hid (made_at 4 (format_any 0 [7, 8] (.slice (some ⟨W2.heap.size, 0, none⟩) 2 2) (W2.alloc (.cells #[.int .u8 7, .int .u8 8] 5)) (byt_lit (p := [7, 8]) (heap_alloc_new _ _) (by unfold B8; decide) (by decide)) ⟨by omega, by omega⟩) ex_fE rfl (by decide +kernel))
  go_upto_region 3 with (go_at_call 11; refine HF.out.mono ?_; rintro e X3 ⟨O3, o3, l3, rfl, ho3, _, hl3, hb3⟩; have HO3 := hid ho3; have HL3 := hid hl3; have hb23 := below_both (al1 W2 _) hb3; have HD3 := hid (HD2.out.below hb23); have HB3 := hid (below_both HB2.out hb23); have hx3 := (hb23.block _ (box_lt HX2.out)).trans HX2.out; have HX3 := hid hx3; have y0 := cell_of_row _ _ 0 _ _ _ hx3; have y1 := cell_of_row _ _ 1 _ _ _ hx3; clear ho3 hl3 hb3 hb23 hx3)
  have HRN := hid (run_dk HD3.out HO3.out HL3.out ex_run1 (by decide +kernel))
  rw [show sb1.length = 20 by decide +kernel] at HRN
  clear HF HX2
  go_upto_region 4 with (go_at_call 25; refine HRN.out.mono ?_; rintro e X4 ⟨A4, c4, B4, d4, rfl, hg4, hb4⟩; have HG4 := hid hg4; have HB4 := hid (below_both HB3.out hb4); have hx4 := (hb4.block _ (box_lt HX3.out)).trans HX3.out; have HX4 := hid hx4; have z0 := cell_of_row _ _ 0 _ _ _ hx4; have z1 := cell_of_row _ _ 1 _ _ _ hx4; have f0 := box_fr hx4 0; have f1 := box_fr hx4 1; clear hg4 hb4 hx4)
  clear y0 y1 z0 z1 f0 f1
  obtain ⟨W5, hW5⟩ : ∃ X, (X4.setCell ⟨g, 0, none⟩ (.slice A4 20 c4)).setCell ⟨g, 1, none⟩ (.slice B4 0 d4) = X := ⟨_, rfl⟩
  have HX5 : Hid (W5.heap[g]? = some (.cells #[.slice A4 20 c4, .slice B4 0 d4] 35)) := hid (by rw [← hW5]; exact disk_set HX4.out _ _)
  have HG5 : Hid (OwnG W5 X3.heap.size sb1 [] (.agg #[.slice A4 20 c4, .slice B4 0 d4])) := hid (by rw [← hW5]; exact HG4.out.keep (keep_two HX4.out (by decide)) (keep_two HX4.out (by decide)) (Nat.le_refl _))
  have HB5 : Hid (Below w.heap.size w W5) := hid (by rw [← hW5]; exact (HB4.out.setCell (p := ⟨g, 0, none⟩) HG.out _).setCell (p := ⟨g, 1, none⟩) HG.out _)
  rw [hW5]
  clear hW5
  have v0 := cell_of_row _ _ 0 _ _ _ HX5.out
  have v1 := cell_of_row _ _ 1 _ _ _ HX5.out
  have HLD := hid (load_dk HG5.out.dk (a := 0) ⟨by omega, by omega⟩ (by decide) ex_load1)
  clear HX4 HG4 HRN
  go_upto_region 5 with (go_at_call 15; refine HLD.out.mono ?_; rintro e X6 ⟨P, pc, rfl, hp6, hb6⟩; have HP6 := hid hp6; have HBX6 : Hid (Below W5.heap.size W5 X6) := hid hb6; have HB6 := hid (below_both HB5.out hb6); clear hp6 hb6)
  clear v0 v1
  have hx6 := (HBX6.out.block _ (box_lt HX5.out)).trans HX5.out
  obtain ⟨W7, hW7⟩ : ∃ X, X6.alloc (.cells #[.int .u8 7, .int .u8 8] 5) = X := ⟨_, rfl⟩
  have hb67 : Below X6.heap.size X6 W7 := by rw [← hW7]; exact al1 _ _
  have hx7 := (hb67.block _ (box_lt hx6)).trans hx6
  have HX6 := hid hx6
  have HX7 := hid hx7
  have HW7 := hid hW7
  have HB7 := hid (below_both HB6.out hb67)
  have HG7 : Hid (OwnG W7 X3.heap.size sb1 [] (.agg #[.slice A4 20 c4, .slice B4 0 d4])) := hid (HG5.out.keep (keep_below (below_both HBX6.out hb67)) (keep_below (below_both HBX6.out hb67)) (Nat.le_refl _))
  have HEQ := hid (equal_any [7, 8] [7, 8] _ (.slice (some ⟨X6.heap.size, 0, none⟩) 2 2) W7 (HP6.out.below hb67) (by rw [← hW7]; exact byt_lit (p := [7, 8]) (heap_alloc_new _ _) (by unfold B8; decide) (by decide)))
  have y0 := cell_of_row _ _ 0 _ _ _ hx7
  obtain ⟨sv7, cv7, e7, hs7, _, _⟩ := HG7.out.dk
  injection e7 with e7
  injection e7 with e7
  injection e7 with e7 e7'
  injection e7' with e7'
  subst e7 e7'
  obtain ⟨b, off, rfl, hcell⟩ := secs_cell hs7 (by decide +kernel)
  have k0 := fun j u => hcell 0 j [1, 0, 0, 0, 2, 7, 8, 0] u (by decide +kernel)
  have k7 := fun j u => hcell 7 j [1, 0, 0, 0, 0, 0, 0, 0] u (by decide +kernel)
  have a0 := k0 0 _ rfl
  have a1 := k0 1 _ rfl
  have a2 := k0 2 _ rfl
  have a3 := k0 3 _ rfl
  have a4 := k0 4 _ rfl
  have a5 := k0 5 _ rfl
  have a6 := k0 6 _ rfl
  have a7 := k0 7 _ rfl
  have b0 := k7 0 _ rfl
  have b1 := k7 1 _ rfl
  have b2 := k7 2 _ rfl
  have b3 := k7 3 _ rfl
  have b4 := k7 4 _ rfl
  have b5 := k7 5 _ rfl
  have b6 := k7 6 _ rfl
  have b7 := k7 7 _ rfl
  simp only [Nat.zero_mul, Nat.add_zero, byteV] at a0 a1 a2 a3 a4 a5 a6 a7 b0 b1 b2 b3 b4 b5 b6 b7
  have q0 : ∀ W, (Op.equalIn 10000 57 (.agg #[.int .u8 1, .int .u8 0, .int .u8 0, .int .u8 0, .int .u8 2, .int .u8 7, .int .u8 8, .int .u8 0]) (.agg #[.int .u8 1, .int .u8 0, .int .u8 0, .int .u8 0, .int .u8 2, .int .u8 7, .int .u8 8, .int .u8 0])).run Try.prog W = .ok true W := fun W => eql_sec [1, 0, 0, 0, 2, 7, 8, 0] [1, 0, 0, 0, 2, 7, 8, 0] rfl rfl (by unfold B8; decide) (by unfold B8; decide) W
  have q7 : ∀ W, (Op.equalIn 10000 57 (.agg #[.int .u8 1, .int .u8 0, .int .u8 0, .int .u8 0, .int .u8 0, .int .u8 0, .int .u8 0, .int .u8 0]) (.agg #[.int .u8 1, .int .u8 0, .int .u8 0, .int .u8 0, .int .u8 0, .int .u8 0, .int .u8 0, .int .u8 0])).run Try.prog W = .ok true W := fun W => eql_sec [1, 0, 0, 0, 0, 0, 0, 0] [1, 0, 0, 0, 0, 0, 0, 0] rfl rfl (by unfold B8; decide) (by unfold B8; decide) W
  clear hx6 hW7 hb67 hx7 hs7 hcell k0 k7 HLD HG5 HX5
  go_upto_region 7 with (go_at_call 17; rw [HW7.out]; refine HEQ.out.mono ?_; rintro e X8 ⟨rfl, rfl⟩)
  clear a0 a1 a2 a3 a4 a5 a6 a7 b0 b1 b2 b3 b4 b5 b6 b7 q0 q7 HEQ HP6 HW7 y0
  have u0 := cell_of_row _ _ 0 _ _ _ HX7.out
  have u1 := cell_of_row _ _ 1 _ _ _ HX7.out
  have hd9 := HG7.out.dk.below (al1 W7 (.cells #[.int .u8 9] 5))
  obtain ⟨sv9, cv9, e9, h91, h92, h93⟩ := hd9
  injection e9 with e9
  injection e9 with e9
  injection e9 with e9 e9'
  injection e9' with e9'
  subst e9 e9'
  have HST := hid (made_at 2 (store_any sb1 [] _ _ (.slice (some ⟨W7.heap.size, 0, none⟩) 1 1) 0 [9] (W7.alloc (.cells #[.int .u8 9] 5)) h91 h92 h93 ⟨by omega, by omega⟩ (by decide) (byt_lit (p := [9]) (heap_alloc_new _ _) (by unfold B8; decide) (by decide))) ex_sE ex_sC (by decide +kernel))
  clear h91 h92 h93
  go_upto_region 8 with (go_at_call 18; refine HST.out.mono ?_; rintro e X9 ⟨O9, o9, l9, rfl, ho9, _, hl9, hb9⟩; have HO9 := hid ho9; have HL9 := hid hl9; have hb79 := below_both (al1 W7 _) hb9; have HG9 := hid (HG7.out.keep (keep_below hb79) (keep_below hb79) (Nat.le_refl _)); have HB9 := hid (below_both HB7.out hb79); have hx9 := (hb79.block _ (box_lt HX7.out)).trans HX7.out; have HX9 := hid hx9; have y0 := cell_of_row _ _ 0 _ _ _ hx9; have y1 := cell_of_row _ _ 1 _ _ _ hx9; clear ho9 hl9 hb9 hb79 hx9)
  clear u0 u1 HST
  have HRN := hid (run_dk HG9.out.dk HO9.out HL9.out ex_run2 (by decide +kernel))
  rw [show sb2.length = 20 by decide +kernel] at HRN
  go_upto_region 9 with (go_at_call 25; refine HRN.out.mono ?_; rintro e X10 ⟨A10, c10, B10, d10, rfl, hg10, hb10⟩; have HG10 := hid hg10; have HB10 := hid (below_both HB9.out hb10); have hx10 := (hb10.block _ (box_lt HX9.out)).trans HX9.out; have HX10 := hid hx10; have z0 := cell_of_row _ _ 0 _ _ _ hx10; have z1 := cell_of_row _ _ 1 _ _ _ hx10; have f0 := box_fr hx10 0; have f1 := box_fr hx10 1; clear hg10 hb10 hx10)
  clear y0 y1 z0 z1 f0 f1
  obtain ⟨W11, hW11⟩ : ∃ X, (X10.setCell ⟨g, 0, none⟩ (.slice A10 20 c10)).setCell ⟨g, 1, none⟩ (.slice B10 0 d10) = X := ⟨_, rfl⟩
  have HX11 : Hid (W11.heap[g]? = some (.cells #[.slice A10 20 c10, .slice B10 0 d10] 35)) := hid (by rw [← hW11]; exact disk_set HX10.out _ _)
  have HG11 : Hid (OwnG W11 X9.heap.size sb2 [] (.agg #[.slice A10 20 c10, .slice B10 0 d10])) := hid (by rw [← hW11]; exact HG10.out.keep (keep_two HX10.out (by decide)) (keep_two HX10.out (by decide)) (Nat.le_refl _))
  have HB11 : Hid (Below w.heap.size w W11) := hid (by rw [← hW11]; exact (HB10.out.setCell (p := ⟨g, 0, none⟩) HG.out _).setCell (p := ⟨g, 1, none⟩) HG.out _)
  rw [hW11]
  clear hW11
  have v0 := cell_of_row _ _ 0 _ _ _ HX11.out
  have v1 := cell_of_row _ _ 1 _ _ _ HX11.out
  have HLD := hid (load_dk HG11.out.dk (a := 0) ⟨by omega, by omega⟩ (by decide) ex_load2)
  go_upto_region 10 with (go_at_call 15; refine HLD.out.mono ?_; rintro e X12 ⟨P12, pc12, rfl, hp12, hb12⟩; have HP12 := hid hp12; have HBX12 : Hid (Below W11.heap.size W11 X12) := hid hb12; have HB12 := hid (below_both HB11.out hb12); clear hp12 hb12)
  clear v0 v1
  have hx12 := (HBX12.out.block _ (box_lt HX11.out)).trans HX11.out
  obtain ⟨W13, hW13⟩ : ∃ X, X12.alloc (.cells #[.int .u8 9] 5) = X := ⟨_, rfl⟩
  have hb13 : Below X12.heap.size X12 W13 := by rw [← hW13]; exact al1 _ _
  have hx13 := (hb13.block _ (box_lt hx12)).trans hx12
  have HW13 := hid hW13
  have HB13 := hid (below_both HB12.out hb13)
  have HG13 : Hid (OwnG W13 X9.heap.size sb2 [] (.agg #[.slice A10 20 c10, .slice B10 0 d10])) := hid (HG11.out.keep (keep_below (below_both HBX12.out hb13)) (keep_below (below_both HBX12.out hb13)) (Nat.le_refl _))
  have HEQ := hid (equal_any [9] [9] _ (.slice (some ⟨X12.heap.size, 0, none⟩) 1 1) W13 (HP12.out.below hb13) (by rw [← hW13]; exact byt_lit (p := [9]) (heap_alloc_new _ _) (by unfold B8; decide) (by decide)))
  have y0 := cell_of_row _ _ 0 _ _ _ hx13
  obtain ⟨svz, cvz, ez, hsz, _, _⟩ := HG13.out.dk
  injection ez with ez
  injection ez with ez
  injection ez with ez ez'
  injection ez' with ez'
  subst ez ez'
  obtain ⟨b9, off9, rfl, hcell⟩ := secs_cell hsz (by decide +kernel)
  have k0 := fun j u => hcell 8 j [2, 0, 0, 0, 1, 9, 0, 0] u (by decide +kernel)
  have a0 := k0 0 _ rfl
  have a1 := k0 1 _ rfl
  have a2 := k0 2 _ rfl
  have a3 := k0 3 _ rfl
  have a4 := k0 4 _ rfl
  have a5 := k0 5 _ rfl
  have a6 := k0 6 _ rfl
  have a7 := k0 7 _ rfl
  simp only [Nat.add_zero, byteV] at a0 a1 a2 a3 a4 a5 a6 a7
  have q0 : ∀ W, (Op.equalIn 10000 57 (.agg #[.int .u8 2, .int .u8 0, .int .u8 0, .int .u8 0, .int .u8 1, .int .u8 9, .int .u8 0, .int .u8 0]) (.agg #[.int .u8 2, .int .u8 0, .int .u8 0, .int .u8 0, .int .u8 1, .int .u8 9, .int .u8 0, .int .u8 0])).run Try.prog W = .ok true W := fun W => eql_sec [2, 0, 0, 0, 1, 9, 0, 0] [2, 0, 0, 0, 1, 9, 0, 0] rfl rfl (by unfold B8; decide) (by unfold B8; decide) W
  clear hx12 hW13 hb13 hx13 hsz hcell k0 HLD HX11 HG11 HRN HX10 HG10
  go_wp2_with (first
    | (go_at_call 17; rw [HW13.out]; refine HEQ.out.mono ?_; rintro e X14 ⟨rfl, rfl⟩)
    | (go_at_call 26; refine (capacity_any W13).mono ?_; rintro e X15 ⟨rfl, rfl⟩)
    | fail)
  go_ret
  exact ⟨rfl, HB13.out⟩
end Go.Proofs.Ytnocgfhcamnjdaa
