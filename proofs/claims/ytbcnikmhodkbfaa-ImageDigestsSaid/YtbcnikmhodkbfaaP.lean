/- awake. -/
import Derived.Test.YtbcnikmhodkbfaaO
import Derived.Deep.RegionHeld3
namespace Go.Proofs.Ytbcnikmhodkbfaa
open Go.RowKit Go.Lib

set_option maxHeartbeats 8000000 in
set_option maxRecDepth 100000 in
theorem awake_any (w : World) : Calls Try.prog 14 #[] w fun e w' => e = .returned (.bool true) ∧ Below w.heap.size w w' := by
  have HNEW := hid (fun W : World => new_lit W)
  have HSEC := hid (fun (x : Nat) (W : World) => sector_any x W)
  go_enter Try.func14, Try.ntmps14
  go_wp2_with fail
  refine (HNEW.out w).mono ?_
  rintro e w1 ⟨g, ys, rfl, hc, hl, hi, hb⟩
  have HB1 := hid hb
  have HC := hid hc
  have HL := hid hl
  have HI := hid hi
  clear hb hc hl hi
  go_wp2_with fail
  refine (HSEC.out 1 w1).mono ?_
  rintro e w2 ⟨rfl, hb⟩
  have HB2 := hid (below_both HB1.out hb)
  have HI2 := hid (HI.out.below hb)
  clear hb HB1 HI
  go_wp2_with fail
  refine (HSEC.out 2 w2).mono ?_
  rintro e w3 ⟨rfl, hb⟩
  have HB3 := hid (below_both HB2.out hb)
  have HI3 := hid (HI2.out.below hb)
  clear hb HB2 HI2
  go_wp2_with fail
  obtain ⟨W3, hW3⟩ : ∃ W3, w3.alloc (.cells (tgA 1 ++ tgA 2) 58) = W3 := ⟨_, rfl⟩
  have hB := al1 w3 (.cells (tgA 1 ++ tgA 2) 58)
  have hx3 := heap_alloc_new w3 (.cells (tgA 1 ++ tgA 2) 58)
  have hz3 : w3.heap.size < W3.heap.size := by rw [← hW3]; simp
  have HW3 : Hid (∀ {P : World → Prop}, P W3 → P (w3.alloc (.cells (tgA 1 ++ tgA 2) 58))) := hid (fun h => by rw [hW3]; exact h)
  rw [hW3] at hB hx3
  have HI4 := hid (HI3.out.below hB)
  have HB4 := hid (below_both HB3.out hB)
  refine (show Calls Try.prog 41 #[.int .u8 ((3 : Nat) : Int)] (w3.alloc (.cells (tgA 1 ++ tgA 2) 58)) (fun e w' => e = .returned (.agg (tgA 3)) ∧ Below W3.heap.size W3 w') from by rw [hW3]; exact HSEC.out 3 W3).mono ?_
  rintro e w4 ⟨rfl, hb⟩
  have hx4 := (hb.block w3.heap.size hz3).trans hx3
  have hz4 : w3.heap.size < w4.heap.size := Nat.lt_of_lt_of_le hz3 hb.size
  have HB5 := hid (below_both HB4.out hb)
  have HI5 := hid (HI4.out.below hb)
  have HX4 := hid hx4
  have HZ4 := hid hz4
  clear hb hx3 hz3 hB HB3 HB4 HI4 HI3 HW3 hx4 hz4
  go_wp2_with fail
  refine (app_lit w4 g w3.heap.size ys HI5.out HC.out HX4.out HZ4.out).mono ?_
  rintro e w5 ⟨g2, us, rfl, hcu, hiu, hb⟩
  have HB6 := hid (below_both HB5.out hb)
  have HI6 := hid (HI5.out.below hb)
  have HCU := hid hcu
  have HU6 := hid hiu
  clear hb hcu hiu HB5 HI5 HX4 HZ4 hW3 h
  go_wp2_with fail
  refine (differ_lit w5 _ _ ys us HI6.out HU6.out HC.out HCU.out).mono ?_
  rintro e w6 ⟨g3, A1, c1, A2, c2, rfl, hds, hb⟩
  have HB7 := hid (below_both HB6.out hb)
  have HI7 := hid (HI6.out.below hb)
  have HU7 := hid (HU6.out.below hb)
  have HD7 := hid hds
  clear hb hds HB6 HI6 HU6
  go_wp2_with fail
  refine (patch_lit w6 _ _ ys us HI7.out HU7.out HC.out HCU.out).mono ?_
  rintro e w7 ⟨p, c, PA, k, rfl, hw, hb⟩
  have HB8 := hid (below_both HB7.out hb)
  have HI8 := hid (HI7.out.below hb)
  have HU8 := hid (HU7.out.below hb)
  have HD8 := hid (HD7.out.below hb)
  have HP8 := hid hw
  obtain ⟨b, off, e1, hlt, hcell⟩ := arr_at1 hw.2 Nat.zero_lt_one
  cases e1
  have hp2 : w7.cell? ⟨b, off + 2, none⟩ = some (.slice PA 2 k) := hcell 0 _ rfl 2 _ rfl
  have hp1 : w7.cell? ⟨b, off + 1, none⟩ = some (.int .i64 1) := hcell 0 _ rfl 1 _ rfl
  clear hb hw HB7 HI7 HU7 HD7 hcell
  have hm3 : ∀ W, (Instr.makeSlice 40 (.int .i64 3) (.int .i64 3)).run Try.prog W = .ok (.slice (some ⟨W.heap.size, 0, none⟩) 3 3) (W.alloc (.cells (laid [] 3).toArray 58)) := fun W => make40 W 3 (by decide)
  have hm1 : ∀ W, (Instr.makeSlice 40 (.int .i64 1) (.int .i64 1)).run Try.prog W = .ok (.slice (some ⟨W.heap.size, 0, none⟩) 1 1) (W.alloc (.cells (laid [] 1).toArray 58)) := fun W => make40 W 1 (by decide)
  go_wp2_with fail
  have hb8 := al1 w7 (.cells (laid [] 3).toArray 58)
  refine (fits_lit _ _ ys (HI8.out.below hb8) HC.out 0 2 _ 3 _ (by unfold R64; omega) (by omega) 2 fit1).mono ?_
  rintro e w8 ⟨rfl, hb⟩
  have hb := al_back hb
  have HB9 := hid (below_both HB8.out hb)
  have HI9 := hid (HI8.out.below hb)
  have HU9 := hid (HU8.out.below hb)
  have HD9 := hid (HD8.out.below hb)
  have q1 := (hb.cell (p := ⟨b, off + 1, none⟩) hlt).trans hp1
  have hlt9 := Nat.lt_of_lt_of_le hlt hb.size
  clear hb hb8 HB8 HI8 HU8 HD8 HP8 hp1 hp2 hlt
  go_wp2_with fail
  have hb9 := al1 w8 (.cells (laid [] 1).toArray 58)
  refine (fits_lit _ _ ys (HI9.out.below hb9) HC.out 2 0 _ 1 _ (by unfold R64; omega) (by omega) 7 fit2).mono ?_
  rintro e w9 ⟨rfl, hb⟩
  have hb := al_back hb
  have HB10 := hid (below_both HB9.out hb)
  have HI10 := hid (HI9.out.below hb)
  have HU10 := hid (HU9.out.below hb)
  have HD10 := hid (HD9.out.below hb)
  have q2 := (hb.cell (p := ⟨b, off + 1, none⟩) hlt9).trans q1
  have hlt10 := Nat.lt_of_lt_of_le hlt9 hb.size
  clear hb hb9 HB9 HI9 HU9 HD9 q1 hlt9
  go_wp2_with fail
  refine (fits_lit _ _ ys HI10.out HC.out 1 0 _ 0 _ (by unfold R64; omega) (by omega) 1 fit3).mono ?_
  rintro e w10 ⟨rfl, hb⟩
  have HB11 := hid (below_both HB10.out hb)
  have HI11 := hid (HI10.out.below hb)
  have HU11 := hid (HU10.out.below hb)
  have HD11 := hid (HD10.out.below hb)
  have q3 := (hb.cell (p := ⟨b, off + 1, none⟩) hlt10).trans q2
  have hlt11 := Nat.lt_of_lt_of_le hlt10 hb.size
  clear hb HB10 HI10 HU10 HD10 q2 hlt10
  go_wp2_with fail
  obtain ⟨ua, ub, rfl⟩ := img01 HCU.out
  have hs1 := (HU11.out.1 _ (List.mem_cons_self ..)).1
  obtain ⟨uA, uc, e1⟩ := sec_form hs1
  dsimp only at e1
  subst e1
  obtain ⟨b', o', e2, hg2, hcl⟩ := arr_at1 HU11.out.2 (Nat.succ_pos _)
  cases e2
  have r0 : w10.cell? ⟨g2, 0, none⟩ = some (.slice uA 4 uc) := hcl 0 _ rfl 0 _ rfl
  clear hcl
  have hx1 := HD11.out.1 _ (List.mem_cons_self ..)
  dsimp only at hx1
  obtain ⟨b', o', e2, hg3, hcl⟩ := arr_at1 HD11.out.2 (Nat.succ_pos _)
  cases e2
  have r1 : w10.cell? ⟨g3, 0, none⟩ = some (.slice A1 1 c1) := hcl 0 _ rfl 0 _ rfl
  have r2 : w10.cell? ⟨g3, 1, none⟩ = some (.slice A2 0 c2) := hcl 1 _ rfl 0 _ rfl
  clear hcl
  have HS1 : Hid (∀ W, Calls Try.prog 41 #[.int .u8 1] W fun e w' => e = .returned (.agg #[.int .u8 1, .int .u8 0, .int .u8 0, .int .u8 0, .int .u8 0, .int .u8 0, .int .u8 0, .int .u8 0]) ∧ Below W.heap.size W w') := hid (fun W => HSEC.out 1 W)
  have HS3 : Hid (∀ W, Calls Try.prog 41 #[.int .u8 3] W fun e w' => e = .returned (.agg #[.int .u8 3, .int .u8 0, .int .u8 0, .int .u8 0, .int .u8 0, .int .u8 0, .int .u8 0, .int .u8 0]) ∧ Below W.heap.size W w') := hid (fun W => HSEC.out 3 W)
  have HE1 : Hid (∀ W CS, Below w10.heap.size w10 W → CS = zA ++ tgA 1 ++ tgA 3 ++ zA → Calls Try.prog 27 #[.slice uA 4 uc, .slice (some ⟨W.heap.size, 0, none⟩) 4 4] (W.alloc (.cells CS 58)) fun e w' => e = .returned (.bool true) ∧ Below w10.heap.size w10 w') := hid (fun W CS hb e => by rw [e]; exact eqS_lit w10 W uA uc hs1 hb)
  have HE2 := hid (fun W (hb : Below w10.heap.size w10 W) => eqE_lit w10 W A1 c1 hx1 hb)
  have HKK : Hid (∀ W, Below w10.heap.size w10 W → W.cell? ⟨g2, 0, none⟩ = some (.slice uA 4 uc) ∧ W.cell? ⟨g3, 0, none⟩ = some (.slice A1 1 c1) ∧ W.cell? ⟨g3, 1, none⟩ = some (.slice A2 0 c2) ∧ W.cell? ⟨b, off + 1, none⟩ = some (.int .i64 1)) := hid (fun W hb => ⟨(hb.cell (p := ⟨g2, 0, none⟩) hg2).trans r0, (hb.cell (p := ⟨g3, 0, none⟩) hg3).trans r1, (hb.cell (p := ⟨g3, 1, none⟩) hg3).trans r2, (hb.cell (p := ⟨b, off + 1, none⟩) hlt11).trans q3⟩)
  have HB0 := hid (below_drew (Below.refl w10.heap.size w10))
  clear hs1 hx1 HSEC HU11 HD11 HI11 hlt11 hg2 hg3 HC HL HCU hm1 hm3
  go_region_held3 (fun X => X.cell? ⟨g2, 0, none⟩ = some (.slice uA 4 uc) ∧ X.cell? ⟨g3, 0, none⟩ = some (.slice A1 1 c1) ∧ X.cell? ⟨g3, 1, none⟩ = some (.slice A2 0 c2) ∧ X.cell? ⟨b, off + 1, none⟩ = some (.int .i64 1)) (go_keep)
    (first
      | (go_at_call 41; refine (HS1.out _).mono ?_; rintro e wa ⟨rfl, hba⟩; have HBa := hid (below_both HB0.out hba); clear hba; obtain ⟨r0, r1, r2, q3⟩ := HKK.out wa HBa.out)
      | (go_at_call 41; refine (HS3.out _).mono ?_; rintro e wb ⟨rfl, hba⟩; have HBb := hid (below_both HBa.out hba); clear hba; obtain ⟨r0, r1, r2, q3⟩ := HKK.out wb HBb.out)
      | (go_at_call 27; refine (HE1.out _ _ HBb.out rfl).mono ?_; rintro e wc ⟨rfl, hba⟩; have HBc := hid hba; clear hba; obtain ⟨r0, r1, r2, q3⟩ := HKK.out wc HBc.out)
      | (go_at_call 42; refine (HE2.out _ HBc.out).mono ?_; rintro e wd ⟨rfl, hba⟩; have HBd := hid hba; clear hba; obtain ⟨r0, r1, r2, q3⟩ := HKK.out wd HBd.out))
  go_wp2
  go_ret
  exact ⟨rfl, below_both HB11.out HBd.out⟩
end Go.Proofs.Ytbcnikmhodkbfaa
