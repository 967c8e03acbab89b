/- The law BitmapCounts is walked. -/
import Derived.Test.YtbifhcjkdfocaaaDoorQc
import Derived.IntWalk
namespace Go.Proofs.YtbifhcjkdfocaaaDoor
open Go.RowKit

theorem ct_or_and (p q : Nat → Bool) (n : Nat) : ct (fun i => p i || q i) n + ct (fun i => p i && q i) n = ct p n + ct q n := by
  induction n with
  | zero => rfl
  | succ n ih =>
    unfold ct
    cases p n <;> cases q n <;> simp <;> omega
theorem ct_and_not (p q : Nat → Bool) (n : Nat) : ct (fun i => p i && !q i) n + ct (fun i => p i && q i) n = ct p n := by
  induction n with
  | zero => rfl
  | succ n ih =>
    unfold ct
    cases p n <;> cases q n <;> simp <;> omega
theorem comb_ok {s : Int} {wa wb : List Nat} (ha : Good s wa) (hb : Good s wb) : combErr s wa s wb = 0 := comb_0 (chk_good ha) (chk_good hb)
/-- A good result, opened. -/
theorem made_good {w w' : World} {s : Int} {p : Nat → Bool} {e : Ending} (h : MadeB w 0 s p e w') : ∃ ws A c, e = .returned (.tuple #[.agg #[.int .i64 s, .slice A ws.length c], .int .i64 0]) ∧ Bm w' (.agg #[.int .i64 s, .slice A ws.length c]) s ws ∧ (Good s ws ∧ ∀ i : Nat, (i : Int) < s → bit ws i = p i) ∧ Below w.heap.size w w' := by
  obtain ⟨v, ws, rfl, hbm, hif, hb⟩ := h
  rw [if_pos rfl] at hbm hif
  obtain ⟨A, c, rfl⟩ := hbm.form
  exact ⟨ws, A, c, rfl, hbm, hif, hb⟩
theorem cnt_bits {f : Nat} {ws : List Nat} {p : Nat → Bool} (h : Good (f : Int) ws) (hp : ∀ i : Nat, (i : Int) < (f : Int) → bit ws i = p i) : cnt f ws = ct p f := by
  rw [cnt_good (chk_good h)]
  congr 1
  exact ct_congr (fun i hi => hp i (by omega))
theorem good_length {s : Int} {ws : List Nat} (h : Good s ws) : ws.length ≤ 10000 := by
  have := h.len
  have := h.high
  omega
theorem not_both {n m : Nat} (h : ¬ (n ≤ 20 ∧ m ≤ 20)) : decide (n ≤ 20 ∧ m ≤ 20) = false := by simp; omega

set_option maxHeartbeats 4000000 in
set_option maxRecDepth 100000 in
theorem counts_walk (sa sb : Int) (wa wb : List Nat) (va vb : Value) (w : World) (ha : Bm w va sa wa) (hb : Bm w vb sb wb) (hT : Tab w) :
    Calls Tryd.prog 9 #[va, vb] w fun e w' => e = .returned (.bool true) ∧ Below w.heap.size w w' := by
  have hlna := bm_len ha
  have hlnb := bm_len hb
  have HVA := hid ha
  have HVB := hid hb
  have HT := hid hT
  obtain ⟨hr1, hr2⟩ : R64 sa := ha.1
  obtain ⟨hr3, hr4⟩ : R64 sb := hb.1
  obtain ⟨A, ca, rfl⟩ := ha.form
  obtain ⟨B, cb, rfl⟩ := hb.form
  clear ha hb hT
  obtain ⟨w1, h1⟩ : ∃ w1, w.alloc (.cells #[.int .i64 sa, .slice A wa.length ca] 24) = w1 := ⟨_, rfl⟩
  have z1 : w1.heap.size = w.heap.size + 1 := by rw [← h1]; simp
  obtain ⟨w2, h2⟩ : ∃ w2, w1.alloc (.cells #[.int .i64 sb, .slice B wb.length cb] 24) = w2 := ⟨_, rfl⟩
  have z2 : w2.heap.size = w.heap.size + 2 := by rw [← h2]; simp; omega
  obtain ⟨w3, h3⟩ : ∃ w3, w2.alloc (.cells #[.int .i64 sa, .slice A wa.length ca, .int .i64 sb, .slice B wb.length cb] 24) = w3 := ⟨_, rfl⟩
  have BX : Hid (Box w2 w.heap.size sa A wa.length ca) := hid (by rw [← h2, ← h1]; exact (box_new _ _ _ _ _).alloc _)
  have BY : Hid (Box w2 (w.heap.size + 1) sb B wb.length cb) := hid (by rw [← h2, ← z1]; exact box_new w1 _ _ _ _)
  have hb23 : Below w2.heap.size w2 w3 := by rw [← h3]; exact al1 _ _
  have HB : Hid (Below w.heap.size w w3) := hid (below_both (by rw [← h2, ← h1]; exact ((Below.refl _ w).alloc (Nat.le_refl _) _).alloc (by simp) _) hb23)
  have HG : Hid (w3.heap[w.heap.size + 2]? = some (.cells #[.int .i64 sa, .slice A wa.length ca, .int .i64 sb, .slice B wb.length cb] 24 (0, 0))) := hid (by rw [← h3, ← z2]; exact heap_alloc_new w2 _)
  obtain ⟨BXc0, BXc1, BXc2⟩ := BX.out.facts
  obtain ⟨BYc0, BYc1, BYc2⟩ := BY.out.facts
  have BX3 := hid (BX.out.below hb23)
  have BY3 := hid (BY.out.below hb23)
  have HF := hid (few_2 (w.heap.size + 2) wa.length ca wb.length cb sa sb A B w3 HG.out hlna hlnb)
  have HKA := hid (fun W (h : Below w.heap.size w W) => refCheck_any sa wa _ W (HVA.out.below h))
  have HKB := hid (fun W (h : Below w.heap.size w W) => refCheck_any sb wb _ W (HVB.out.below h))
  have HAW := hid (fun W (h : Below w.heap.size w W) => awake_any W (HT.out.below h))
  clear hb23
  by_cases hfew : wa.length ≤ 20 ∧ wb.length ≤ 20
  · rw [decide_eq_true hfew] at HF
    by_cases ga : chk sa wa = 0
    · by_cases gb : chk sb wb = 0
      · by_cases hss : sa = sb
        · subst hss
          have gooda := chk_zero ga
          have goodb := chk_zero gb
          have hlo := gooda.low
          have hhi := gooda.high
          obtain ⟨f, rfl⟩ := Int.eq_ofNat_of_zero_le hlo
          rw [ga] at HKA
          rw [gb] at HKB
          have HGA := hid gooda
          have HGB := hid goodb
          clear hfew ga gb gooda goodb hr1 hr2 hr3 hr4
          have HC1 := hid (fun W (h : Below w.heap.size w W) => or_any f f wa wb _ _ W (HVA.out.below h) (HVB.out.below h))
          have HC2 := hid (fun W (h : Below w.heap.size w W) => and_any f f wa wb _ _ W (HVA.out.below h) (HVB.out.below h))
          have HC3 := hid (fun W (h : Below w.heap.size w W) => andNot_any f f wa wb _ _ W (HVA.out.below h) (HVB.out.below h))
          rw [comb_ok HGA.out HGB.out] at HC1 HC2 HC3
          go_enter Tryd.func9, Tryd.ntmps9
          go_wp2_with fail
          refine HF.out.mono ?_
          rintro e w4 ⟨rfl, rfl⟩
          clear BX BY BXc0 BXc1 BXc2 BYc0 BYc1 BYc2 HF HG z1 z2
          have BX := BX3
          have BY := BY3
          clear BX3 BY3
          obtain ⟨BXc0, BXc1, BXc2⟩ := BX.out.facts
          obtain ⟨BYc0, BYc1, BYc2⟩ := BY.out.facts
          go_wp2_with fail
          refine (HKA.out _ HB.out).mono ?_
          rintro e w5 ⟨rfl, hb⟩
          replace BX := hid (BX.out.below hb)
          replace BY := hid (BY.out.below hb)
          replace HB := hid (below_both HB.out hb)
          clear BXc0 BXc1 BXc2 BYc0 BYc1 BYc2 hb
          obtain ⟨BXc0, BXc1, BXc2⟩ := BX.out.facts
          obtain ⟨BYc0, BYc1, BYc2⟩ := BY.out.facts
          go_wp2_with fail
          refine (HKB.out _ HB.out).mono ?_
          rintro e w6 ⟨rfl, hb⟩
          replace BX := hid (BX.out.below hb)
          replace BY := hid (BY.out.below hb)
          replace HB := hid (below_both HB.out hb)
          clear BXc0 BXc1 BXc2 BYc0 BYc1 BYc2 hb
          obtain ⟨BXc0, BXc1, BXc2⟩ := BX.out.facts
          obtain ⟨BYc0, BYc1, BYc2⟩ := BY.out.facts
          go_wp2_with fail
          refine (HC1.out _ HB.out).mono ?_
          intro e w7 hm
          obtain ⟨us1, A1, c1, rfl, hbm1, hg1, hb⟩ := made_good hm
          replace BX := hid (BX.out.below hb)
          replace BY := hid (BY.out.below hb)
          replace HB := hid (below_both HB.out hb)
          clear BXc0 BXc1 BXc2
          clear BYc0 BYc1 BYc2
          obtain ⟨BXc0, BXc1, BXc2⟩ := BX.out.facts
          obtain ⟨BYc0, BYc1, BYc2⟩ := BY.out.facts
          have M1 := hid hbm1
          have G1 := hid hg1
          clear hb hm hbm1 hg1
          go_wp2_with fail
          obtain ⟨w8, heq⟩ : ∃ X, w7.alloc (.cells #[.int .i64 (f : Int), .slice A1 us1.length c1] 24) = X := ⟨_, rfl⟩
          have hb : Below w7.heap.size w7 w8 := by rw [← heq]; exact al1 _ _
          replace BX := hid (BX.out.below hb)
          replace BY := hid (BY.out.below hb)
          replace M1 := hid (M1.out.below hb)
          replace HB := hid (below_both HB.out hb)
          have B1 : Hid (Box w8 w7.heap.size (f : Int) A1 us1.length c1) := hid (by rw [← heq]; exact box_new _ _ _ _ _)
          rw [heq]
          clear hb heq
          clear BXc0 BXc1 BXc2
          clear BYc0 BYc1 BYc2
          obtain ⟨BXc0, BXc1, BXc2⟩ := BX.out.facts
          obtain ⟨BYc0, BYc1, BYc2⟩ := BY.out.facts
          obtain ⟨B1c0, B1c1, B1c2⟩ := B1.out.facts
          refine (HC2.out _ HB.out).mono ?_
          intro e w9 hm
          obtain ⟨us2, A2, c2, rfl, hbm2, hg2, hb⟩ := made_good hm
          replace BX := hid (BX.out.below hb)
          replace BY := hid (BY.out.below hb)
          replace B1 := hid (B1.out.below hb)
          replace M1 := hid (M1.out.below hb)
          replace HB := hid (below_both HB.out hb)
          clear BXc0 BXc1 BXc2
          clear BYc0 BYc1 BYc2
          clear B1c0 B1c1 B1c2
          obtain ⟨BXc0, BXc1, BXc2⟩ := BX.out.facts
          obtain ⟨BYc0, BYc1, BYc2⟩ := BY.out.facts
          obtain ⟨B1c0, B1c1, B1c2⟩ := B1.out.facts
          have M2 := hid hbm2
          have G2 := hid hg2
          clear hb hm hbm2 hg2
          go_wp2_with fail
          obtain ⟨w10, heq⟩ : ∃ X, w9.alloc (.cells #[.int .i64 (f : Int), .slice A2 us2.length c2] 24) = X := ⟨_, rfl⟩
          have hb : Below w9.heap.size w9 w10 := by rw [← heq]; exact al1 _ _
          replace BX := hid (BX.out.below hb)
          replace BY := hid (BY.out.below hb)
          replace B1 := hid (B1.out.below hb)
          replace M1 := hid (M1.out.below hb)
          replace M2 := hid (M2.out.below hb)
          replace HB := hid (below_both HB.out hb)
          have B2 : Hid (Box w10 w9.heap.size (f : Int) A2 us2.length c2) := hid (by rw [← heq]; exact box_new _ _ _ _ _)
          rw [heq]
          clear hb heq
          clear BXc0 BXc1 BXc2
          clear BYc0 BYc1 BYc2
          clear B1c0 B1c1 B1c2
          obtain ⟨BXc0, BXc1, BXc2⟩ := BX.out.facts
          obtain ⟨BYc0, BYc1, BYc2⟩ := BY.out.facts
          obtain ⟨B1c0, B1c1, B1c2⟩ := B1.out.facts
          obtain ⟨B2c0, B2c1, B2c2⟩ := B2.out.facts
          refine (HC3.out _ HB.out).mono ?_
          intro e w11 hm
          obtain ⟨us3, A3, c3, rfl, hbm3, hg3, hb⟩ := made_good hm
          replace BX := hid (BX.out.below hb)
          replace BY := hid (BY.out.below hb)
          replace B1 := hid (B1.out.below hb)
          replace B2 := hid (B2.out.below hb)
          replace M1 := hid (M1.out.below hb)
          replace M2 := hid (M2.out.below hb)
          replace HB := hid (below_both HB.out hb)
          clear BXc0 BXc1 BXc2
          clear BYc0 BYc1 BYc2
          clear B1c0 B1c1 B1c2
          clear B2c0 B2c1 B2c2
          obtain ⟨BXc0, BXc1, BXc2⟩ := BX.out.facts
          obtain ⟨BYc0, BYc1, BYc2⟩ := BY.out.facts
          obtain ⟨B1c0, B1c1, B1c2⟩ := B1.out.facts
          obtain ⟨B2c0, B2c1, B2c2⟩ := B2.out.facts
          have M3 := hid hbm3
          have G3 := hid hg3
          clear hb hm hbm3 hg3
          go_wp2_with fail
          obtain ⟨w12, heq⟩ : ∃ X, w11.alloc (.cells #[.int .i64 (f : Int), .slice A3 us3.length c3] 24) = X := ⟨_, rfl⟩
          have hb : Below w11.heap.size w11 w12 := by rw [← heq]; exact al1 _ _
          replace BX := hid (BX.out.below hb)
          replace BY := hid (BY.out.below hb)
          replace B1 := hid (B1.out.below hb)
          replace B2 := hid (B2.out.below hb)
          replace M1 := hid (M1.out.below hb)
          replace M2 := hid (M2.out.below hb)
          replace M3 := hid (M3.out.below hb)
          replace HB := hid (below_both HB.out hb)
          have B3 : Hid (Box w12 w11.heap.size (f : Int) A3 us3.length c3) := hid (by rw [← heq]; exact box_new _ _ _ _ _)
          rw [heq]
          clear hb heq
          clear BXc0 BXc1 BXc2
          clear BYc0 BYc1 BYc2
          clear B1c0 B1c1 B1c2
          clear B2c0 B2c1 B2c2
          obtain ⟨BXc0, BXc1, BXc2⟩ := BX.out.facts
          obtain ⟨BYc0, BYc1, BYc2⟩ := BY.out.facts
          obtain ⟨B1c0, B1c1, B1c2⟩ := B1.out.facts
          obtain ⟨B2c0, B2c1, B2c2⟩ := B2.out.facts
          obtain ⟨B3c0, B3c1, B3c2⟩ := B3.out.facts
          have HC4 := hid (or_any f f us3 us2 _ _ _ M3.out M2.out)
          rw [comb_ok G3.out.1 G2.out.1] at HC4
          refine HC4.out.mono ?_
          intro e w13 hm
          clear HC4
          obtain ⟨us4, A4, c4, rfl, hbm4, hg4, hb⟩ := made_good hm
          replace BX := hid (BX.out.below hb)
          replace BY := hid (BY.out.below hb)
          replace B1 := hid (B1.out.below hb)
          replace B2 := hid (B2.out.below hb)
          replace B3 := hid (B3.out.below hb)
          replace M1 := hid (M1.out.below hb)
          replace M2 := hid (M2.out.below hb)
          replace M3 := hid (M3.out.below hb)
          replace HB := hid (below_both HB.out hb)
          clear BXc0 BXc1 BXc2
          clear BYc0 BYc1 BYc2
          clear B1c0 B1c1 B1c2
          clear B2c0 B2c1 B2c2
          clear B3c0 B3c1 B3c2
          obtain ⟨BXc0, BXc1, BXc2⟩ := BX.out.facts
          obtain ⟨BYc0, BYc1, BYc2⟩ := BY.out.facts
          obtain ⟨B1c0, B1c1, B1c2⟩ := B1.out.facts
          obtain ⟨B2c0, B2c1, B2c2⟩ := B2.out.facts
          obtain ⟨B3c0, B3c1, B3c2⟩ := B3.out.facts
          have M4 := hid hbm4
          have G4 := hid hg4
          clear hb hm hbm4 hg4
          go_wp2_with fail
          obtain ⟨w14, heq⟩ : ∃ X, w13.alloc (.cells #[.int .i64 (f : Int), .slice A4 us4.length c4] 24) = X := ⟨_, rfl⟩
          have hb : Below w13.heap.size w13 w14 := by rw [← heq]; exact al1 _ _
          replace BX := hid (BX.out.below hb)
          replace BY := hid (BY.out.below hb)
          replace B1 := hid (B1.out.below hb)
          replace B2 := hid (B2.out.below hb)
          replace B3 := hid (B3.out.below hb)
          replace M1 := hid (M1.out.below hb)
          replace M2 := hid (M2.out.below hb)
          replace M3 := hid (M3.out.below hb)
          replace M4 := hid (M4.out.below hb)
          replace HB := hid (below_both HB.out hb)
          have B4 : Hid (Box w14 w13.heap.size (f : Int) A4 us4.length c4) := hid (by rw [← heq]; exact box_new _ _ _ _ _)
          rw [heq]
          clear hb heq
          clear BXc0 BXc1 BXc2
          clear BYc0 BYc1 BYc2
          clear B1c0 B1c1 B1c2
          clear B2c0 B2c1 B2c2
          clear B3c0 B3c1 B3c2
          obtain ⟨BXc0, BXc1, BXc2⟩ := BX.out.facts
          obtain ⟨BYc0, BYc1, BYc2⟩ := BY.out.facts
          obtain ⟨B1c0, B1c1, B1c2⟩ := B1.out.facts
          obtain ⟨B2c0, B2c1, B2c2⟩ := B2.out.facts
          obtain ⟨B3c0, B3c1, B3c2⟩ := B3.out.facts
          obtain ⟨B4c0, B4c1, B4c2⟩ := B4.out.facts
          have heq4 : us4 = wa := good_ext G4.out.1 HGA.out M4.out.2.1 HVA.out.2.1 (fun i hi => by rw [G4.out.2 i hi, G3.out.2 i hi, G2.out.2 i hi]; cases bit wa i <;> cases bit wb i <;> rfl)
          subst heq4
          have k1 := cnt_bits G1.out.1 G1.out.2
          have k2 := cnt_bits G2.out.1 G2.out.2
          have k3 := cnt_bits G3.out.1 G3.out.2
          have k4 := cnt_bits HGA.out (fun i _ => rfl)
          have k5 := cnt_bits HGB.out (fun i _ => rfl)
          have o1 := ct_or_and (bit us4) (bit wb) f
          have o2 := ct_and_not (bit us4) (bit wb) f
          have o3 := ct_le (bit us4) f
          have o4 := ct_le (bit wb) f
          obtain ⟨x1, hx1⟩ : ∃ x, cnt f us1 = x := ⟨_, rfl⟩
          obtain ⟨x2, hx2⟩ : ∃ x, cnt f us2 = x := ⟨_, rfl⟩
          obtain ⟨x3, hx3⟩ : ∃ x, cnt f us3 = x := ⟨_, rfl⟩
          obtain ⟨x4, hx4⟩ : ∃ x, cnt f us4 = x := ⟨_, rfl⟩
          obtain ⟨x5, hx5⟩ : ∃ x, cnt f wb = x := ⟨_, rfl⟩
          have K1 := hid (fun W (v : Value) (h : Bm W v f us1) => count_any f us1 v W h)
          rw [hx1] at K1 k1
          have K2 := hid (fun W (v : Value) (h : Bm W v f us2) => count_any f us2 v W h)
          rw [hx2] at K2 k2
          have K3 := hid (fun W (v : Value) (h : Bm W v f us3) => count_any f us3 v W h)
          rw [hx3] at K3 k3
          have K4 := hid (fun W (v : Value) (h : Bm W v f us4) => count_any f us4 v W h)
          rw [hx4] at K4 k4
          have K5 := hid (fun W (v : Value) (h : Bm W v f wb) => count_any f wb v W h)
          rw [hx5] at K5 k5
          have b1 : 0 ≤ x1 ∧ x1 ≤ 8192 ∧ 0 ≤ x2 ∧ x2 ≤ 4096 ∧ 0 ≤ x4 ∧ x4 ≤ 4096 ∧ 0 ≤ x5 ∧ x5 ≤ 4096 := by omega
          have e1 : (x1 + x2 == x4 + x5) = true := by simp; omega
          have e2 : (x3 == x4 - x2) = true := by simp; omega
          have q1 : IntKind.i64.wrap (x1 + x2) = x1 + x2 := IntWalk.i64_in _ (by omega)
          have q2 : IntKind.i64.wrap (x4 + x5) = x4 + x5 := IntWalk.i64_in _ (by omega)
          have q3 : IntKind.i64.wrap (x4 - x2) = x4 - x2 := IntWalk.i64_in _ (by omega)
          have hl4 := good_length HGA.out
          clear k1 k2 k3 k4 k5 o1 o2 o3 o4 hx1 hx2 hx3 hx4 hx5 b1 G1 G2 G3 G4 hlo hhi
          have BX_14 := BX
          have BY_14 := BY
          have B1_14 := B1
          have B2_14 := B2
          have B3_14 := B3
          have B4_14 := B4
          have HB_14 := HB
          have Q_14 := hid (And.intro M1.out (And.intro M2.out (And.intro M3.out M4.out)))
          clear BX BY B1 B2 B3 B4 M1 M2 M3 M4 HB
          go_region_held3 (fun W => W.cell? ⟨w.heap.size, 0, none⟩ = some (.int .i64 (f : Int)) ∧ W.cell? ⟨w.heap.size, 1, none⟩ = some (.slice A us4.length ca) ∧ W.cell? ⟨w.heap.size + 1, 0, none⟩ = some (.int .i64 (f : Int)) ∧ W.cell? ⟨w.heap.size + 1, 1, none⟩ = some (.slice B wb.length cb) ∧ W.cell? ⟨w7.heap.size, 0, none⟩ = some (.int .i64 (f : Int)) ∧ W.cell? ⟨w7.heap.size, 1, none⟩ = some (.slice A1 us1.length c1) ∧ W.cell? ⟨w9.heap.size, 0, none⟩ = some (.int .i64 (f : Int)) ∧ W.cell? ⟨w9.heap.size, 1, none⟩ = some (.slice A2 us2.length c2) ∧ W.cell? ⟨w11.heap.size, 0, none⟩ = some (.int .i64 (f : Int)) ∧ W.cell? ⟨w11.heap.size, 1, none⟩ = some (.slice A3 us3.length c3) ∧ W.cell? ⟨w13.heap.size, 0, none⟩ = some (.int .i64 (f : Int)) ∧ W.cell? ⟨w13.heap.size, 1, none⟩ = some (.slice A4 us4.length c4))
            (go_keep)
            (first
              | (go_at_call 12; refine (awake_any _ (HT.out.below (below_drewN HB_14.out 1))).mono ?_; rintro e w15 ⟨rfl, hb'⟩; have hb : Below w14.heap.size w14 w15 := ⟨hb'.os, hb'.tape, hb'.output, hb'.size, hb'.block⟩; clear hb'; have BX_15 := hid (BX_14.out.below hb); have BY_15 := hid (BY_14.out.below hb); have B1_15 := hid (B1_14.out.below hb); have B2_15 := hid (B2_14.out.below hb); have B3_15 := hid (B3_14.out.below hb); have B4_15 := hid (B4_14.out.below hb); obtain ⟨BXc0, BXc1, BXc2⟩ := BX_15.out.facts; obtain ⟨BYc0, BYc1, BYc2⟩ := BY_15.out.facts; obtain ⟨B1c0, B1c1, B1c2⟩ := B1_15.out.facts; obtain ⟨B2c0, B2c1, B2c2⟩ := B2_15.out.facts; obtain ⟨B3c0, B3c1, B3c2⟩ := B3_15.out.facts; obtain ⟨B4c0, B4c1, B4c2⟩ := B4_15.out.facts; have HB_15 := hid (below_both HB_14.out hb); have Q_15 := hid (And.intro (Q_14.out.1.below hb) (And.intro (Q_14.out.2.1.below hb) (And.intro (Q_14.out.2.2.1.below hb) (Q_14.out.2.2.2.below hb)))); clear hb)
              | (go_at_call 20; ((with_reducible refine (K1.out _ _ Q_15.out.1).mono ?_); rintro e w16 ⟨rfl, hb⟩); have BX_16 := hid (BX_15.out.below hb); have BY_16 := hid (BY_15.out.below hb); have B1_16 := hid (B1_15.out.below hb); have B2_16 := hid (B2_15.out.below hb); have B3_16 := hid (B3_15.out.below hb); have B4_16 := hid (B4_15.out.below hb); obtain ⟨BXc0, BXc1, BXc2⟩ := BX_16.out.facts; obtain ⟨BYc0, BYc1, BYc2⟩ := BY_16.out.facts; obtain ⟨B1c0, B1c1, B1c2⟩ := B1_16.out.facts; obtain ⟨B2c0, B2c1, B2c2⟩ := B2_16.out.facts; obtain ⟨B3c0, B3c1, B3c2⟩ := B3_16.out.facts; obtain ⟨B4c0, B4c1, B4c2⟩ := B4_16.out.facts; have HB_16 := hid (below_both HB_15.out hb); have Q_16 := hid (And.intro (Q_15.out.1.below hb) (And.intro (Q_15.out.2.1.below hb) (And.intro (Q_15.out.2.2.1.below hb) (Q_15.out.2.2.2.below hb)))); clear hb)
              | (go_at_call 20; ((with_reducible refine (K2.out _ _ Q_16.out.2.1).mono ?_); rintro e w17 ⟨rfl, hb⟩); have BX_17 := hid (BX_16.out.below hb); have BY_17 := hid (BY_16.out.below hb); have B1_17 := hid (B1_16.out.below hb); have B2_17 := hid (B2_16.out.below hb); have B3_17 := hid (B3_16.out.below hb); have B4_17 := hid (B4_16.out.below hb); obtain ⟨BXc0, BXc1, BXc2⟩ := BX_17.out.facts; obtain ⟨BYc0, BYc1, BYc2⟩ := BY_17.out.facts; obtain ⟨B1c0, B1c1, B1c2⟩ := B1_17.out.facts; obtain ⟨B2c0, B2c1, B2c2⟩ := B2_17.out.facts; obtain ⟨B3c0, B3c1, B3c2⟩ := B3_17.out.facts; obtain ⟨B4c0, B4c1, B4c2⟩ := B4_17.out.facts; have HB_17 := hid (below_both HB_16.out hb); have Q_17 := hid (And.intro (Q_16.out.1.below hb) (And.intro (Q_16.out.2.1.below hb) (And.intro (Q_16.out.2.2.1.below hb) (Q_16.out.2.2.2.below hb)))); clear hb)
              | (go_at_call 20; ((with_reducible refine (K4.out _ _ (HVA.out.below HB_17.out)).mono ?_); rintro e w18 ⟨rfl, hb⟩); have BX_18 := hid (BX_17.out.below hb); have BY_18 := hid (BY_17.out.below hb); have B1_18 := hid (B1_17.out.below hb); have B2_18 := hid (B2_17.out.below hb); have B3_18 := hid (B3_17.out.below hb); have B4_18 := hid (B4_17.out.below hb); obtain ⟨BXc0, BXc1, BXc2⟩ := BX_18.out.facts; obtain ⟨BYc0, BYc1, BYc2⟩ := BY_18.out.facts; obtain ⟨B1c0, B1c1, B1c2⟩ := B1_18.out.facts; obtain ⟨B2c0, B2c1, B2c2⟩ := B2_18.out.facts; obtain ⟨B3c0, B3c1, B3c2⟩ := B3_18.out.facts; obtain ⟨B4c0, B4c1, B4c2⟩ := B4_18.out.facts; have HB_18 := hid (below_both HB_17.out hb); have Q_18 := hid (And.intro (Q_17.out.1.below hb) (And.intro (Q_17.out.2.1.below hb) (And.intro (Q_17.out.2.2.1.below hb) (Q_17.out.2.2.2.below hb)))); clear hb)
              | (go_at_call 20; ((with_reducible refine (K5.out _ _ (HVB.out.below HB_18.out)).mono ?_); rintro e w19 ⟨rfl, hb⟩); have BX_19 := hid (BX_18.out.below hb); have BY_19 := hid (BY_18.out.below hb); have B1_19 := hid (B1_18.out.below hb); have B2_19 := hid (B2_18.out.below hb); have B3_19 := hid (B3_18.out.below hb); have B4_19 := hid (B4_18.out.below hb); obtain ⟨BXc0, BXc1, BXc2⟩ := BX_19.out.facts; obtain ⟨BYc0, BYc1, BYc2⟩ := BY_19.out.facts; obtain ⟨B1c0, B1c1, B1c2⟩ := B1_19.out.facts; obtain ⟨B2c0, B2c1, B2c2⟩ := B2_19.out.facts; obtain ⟨B3c0, B3c1, B3c2⟩ := B3_19.out.facts; obtain ⟨B4c0, B4c1, B4c2⟩ := B4_19.out.facts; have HB_19 := hid (below_both HB_18.out hb); have Q_19 := hid (And.intro (Q_18.out.1.below hb) (And.intro (Q_18.out.2.1.below hb) (And.intro (Q_18.out.2.2.1.below hb) (Q_18.out.2.2.2.below hb)))); clear hb)
              | (go_at_call 15; ((with_reducible refine (same_true f us4 _ _ _ Q_19.out.2.2.2 (HVA.out.below HB_19.out) hl4).mono ?_); rintro e w20 ⟨rfl, hb⟩); have BX_20 := hid (BX_19.out.below hb); have BY_20 := hid (BY_19.out.below hb); have B1_20 := hid (B1_19.out.below hb); have B2_20 := hid (B2_19.out.below hb); have B3_20 := hid (B3_19.out.below hb); have B4_20 := hid (B4_19.out.below hb); obtain ⟨BXc0, BXc1, BXc2⟩ := BX_20.out.facts; obtain ⟨BYc0, BYc1, BYc2⟩ := BY_20.out.facts; obtain ⟨B1c0, B1c1, B1c2⟩ := B1_20.out.facts; obtain ⟨B2c0, B2c1, B2c2⟩ := B2_20.out.facts; obtain ⟨B3c0, B3c1, B3c2⟩ := B3_20.out.facts; obtain ⟨B4c0, B4c1, B4c2⟩ := B4_20.out.facts; have HB_20 := hid (below_both HB_19.out hb); have Q_20 := hid (And.intro (Q_19.out.1.below hb) (And.intro (Q_19.out.2.1.below hb) (And.intro (Q_19.out.2.2.1.below hb) (Q_19.out.2.2.2.below hb)))); clear hb)
              | (go_at_call 20; ((with_reducible refine (K3.out _ _ Q_20.out.2.2.1).mono ?_); rintro e w21 ⟨rfl, hb⟩); have BX_21 := hid (BX_20.out.below hb); have BY_21 := hid (BY_20.out.below hb); have B1_21 := hid (B1_20.out.below hb); have B2_21 := hid (B2_20.out.below hb); have B3_21 := hid (B3_20.out.below hb); have B4_21 := hid (B4_20.out.below hb); obtain ⟨BXc0, BXc1, BXc2⟩ := BX_21.out.facts; obtain ⟨BYc0, BYc1, BYc2⟩ := BY_21.out.facts; obtain ⟨B1c0, B1c1, B1c2⟩ := B1_21.out.facts; obtain ⟨B2c0, B2c1, B2c2⟩ := B2_21.out.facts; obtain ⟨B3c0, B3c1, B3c2⟩ := B3_21.out.facts; obtain ⟨B4c0, B4c1, B4c2⟩ := B4_21.out.facts; have HB_21 := hid (below_both HB_20.out hb); have Q_21 := hid (And.intro (Q_20.out.1.below hb) (And.intro (Q_20.out.2.1.below hb) (And.intro (Q_20.out.2.2.1.below hb) (Q_20.out.2.2.2.below hb)))); clear hb)
              | (go_at_call 20; ((with_reducible refine (K4.out _ _ (HVA.out.below HB_21.out)).mono ?_); rintro e w22 ⟨rfl, hb⟩); have BX_22 := hid (BX_21.out.below hb); have BY_22 := hid (BY_21.out.below hb); have B1_22 := hid (B1_21.out.below hb); have B2_22 := hid (B2_21.out.below hb); have B3_22 := hid (B3_21.out.below hb); have B4_22 := hid (B4_21.out.below hb); obtain ⟨BXc0, BXc1, BXc2⟩ := BX_22.out.facts; obtain ⟨BYc0, BYc1, BYc2⟩ := BY_22.out.facts; obtain ⟨B1c0, B1c1, B1c2⟩ := B1_22.out.facts; obtain ⟨B2c0, B2c1, B2c2⟩ := B2_22.out.facts; obtain ⟨B3c0, B3c1, B3c2⟩ := B3_22.out.facts; obtain ⟨B4c0, B4c1, B4c2⟩ := B4_22.out.facts; have HB_22 := hid (below_both HB_21.out hb); have Q_22 := hid (And.intro (Q_21.out.1.below hb) (And.intro (Q_21.out.2.1.below hb) (And.intro (Q_21.out.2.2.1.below hb) (Q_21.out.2.2.2.below hb)))); clear hb)
              | (go_at_call 20; ((with_reducible refine (K2.out _ _ Q_22.out.2.1).mono ?_); rintro e w23 ⟨rfl, hb⟩); have BX_23 := hid (BX_22.out.below hb); have BY_23 := hid (BY_22.out.below hb); have B1_23 := hid (B1_22.out.below hb); have B2_23 := hid (B2_22.out.below hb); have B3_23 := hid (B3_22.out.below hb); have B4_23 := hid (B4_22.out.below hb); obtain ⟨BXc0, BXc1, BXc2⟩ := BX_23.out.facts; obtain ⟨BYc0, BYc1, BYc2⟩ := BY_23.out.facts; obtain ⟨B1c0, B1c1, B1c2⟩ := B1_23.out.facts; obtain ⟨B2c0, B2c1, B2c2⟩ := B2_23.out.facts; obtain ⟨B3c0, B3c1, B3c2⟩ := B3_23.out.facts; obtain ⟨B4c0, B4c1, B4c2⟩ := B4_23.out.facts; have HB_23 := hid (below_both HB_22.out hb); have Q_23 := hid (And.intro (Q_22.out.1.below hb) (And.intro (Q_22.out.2.1.below hb) (And.intro (Q_22.out.2.2.1.below hb) (Q_22.out.2.2.2.below hb)))); clear hb))
          go_wp2
          go_ret
          exact ⟨rfl, HB_23.out⟩
        · have hd : (sa != sb) = true := by simpa using hss
          rw [ga] at HKA
          rw [gb] at HKB
          clear hfew ga gb
          go_enter Tryd.func9, Tryd.ntmps9
          go_wp2_with fail
          refine HF.out.mono ?_
          rintro e w4 ⟨rfl, rfl⟩
          clear BX BY BXc0 BXc1 BXc2 BYc0 BYc1 BYc2 HF HG z1 z2
          have BX := BX3
          have BY := BY3
          clear BX3 BY3
          obtain ⟨BXc0, BXc1, BXc2⟩ := BX.out.facts
          obtain ⟨BYc0, BYc1, BYc2⟩ := BY.out.facts
          go_wp2_with fail
          refine (HKA.out _ HB.out).mono ?_
          rintro e w5 ⟨rfl, hb⟩
          replace BX := hid (BX.out.below hb)
          replace BY := hid (BY.out.below hb)
          replace HB := hid (below_both HB.out hb)
          clear BXc0 BXc1 BXc2 BYc0 BYc1 BYc2 hb
          obtain ⟨BXc0, BXc1, BXc2⟩ := BX.out.facts
          obtain ⟨BYc0, BYc1, BYc2⟩ := BY.out.facts
          go_wp2_with fail
          refine (HKB.out _ HB.out).mono ?_
          rintro e w6 ⟨rfl, hb⟩
          replace BX := hid (BX.out.below hb)
          replace BY := hid (BY.out.below hb)
          replace HB := hid (below_both HB.out hb)
          clear BXc0 BXc1 BXc2 BYc0 BYc1 BYc2 hb
          obtain ⟨BXc0, BXc1, BXc2⟩ := BX.out.facts
          obtain ⟨BYc0, BYc1, BYc2⟩ := BY.out.facts
          go_wp2_with fail
          refine (HAW.out _ HB.out).mono ?_
          rintro e w9 ⟨rfl, hb⟩
          replace HB := hid (below_both HB.out hb)
          clear hb
          go_wp2
          go_ret
          exact ⟨rfl, HB.out⟩
      · have e3 : chk sb wb = 3 := by rcases chk_cases sb wb with h | h <;> omega
        rw [ga] at HKA
        rw [e3] at HKB
        clear hfew ga gb e3
        go_enter Tryd.func9, Tryd.ntmps9
        go_wp2_with fail
        refine HF.out.mono ?_
        rintro e w4 ⟨rfl, rfl⟩
        clear BX BY BXc0 BXc1 BXc2 BYc0 BYc1 BYc2 HF HG z1 z2
        have BX := BX3
        have BY := BY3
        clear BX3 BY3
        obtain ⟨BXc0, BXc1, BXc2⟩ := BX.out.facts
        obtain ⟨BYc0, BYc1, BYc2⟩ := BY.out.facts
        go_wp2_with fail
        refine (HKA.out _ HB.out).mono ?_
        rintro e w5 ⟨rfl, hb⟩
        replace BX := hid (BX.out.below hb)
        replace BY := hid (BY.out.below hb)
        replace HB := hid (below_both HB.out hb)
        clear BXc0 BXc1 BXc2 BYc0 BYc1 BYc2 hb
        obtain ⟨BXc0, BXc1, BXc2⟩ := BX.out.facts
        obtain ⟨BYc0, BYc1, BYc2⟩ := BY.out.facts
        go_wp2_with fail
        refine (HKB.out _ HB.out).mono ?_
        rintro e w6 ⟨rfl, hb⟩
        replace BX := hid (BX.out.below hb)
        replace BY := hid (BY.out.below hb)
        replace HB := hid (below_both HB.out hb)
        clear BXc0 BXc1 BXc2 BYc0 BYc1 BYc2 hb
        obtain ⟨BXc0, BXc1, BXc2⟩ := BX.out.facts
        obtain ⟨BYc0, BYc1, BYc2⟩ := BY.out.facts
        go_wp2_with fail
        refine (HAW.out _ HB.out).mono ?_
        rintro e w9 ⟨rfl, hb⟩
        replace HB := hid (below_both HB.out hb)
        clear hb
        go_wp2
        go_ret
        exact ⟨rfl, HB.out⟩
    · have e3 : chk sa wa = 3 := by rcases chk_cases sa wa with h | h <;> omega
      rw [e3] at HKA
      clear hfew ga e3
      go_enter Tryd.func9, Tryd.ntmps9
      go_wp2_with fail
      refine HF.out.mono ?_
      rintro e w4 ⟨rfl, rfl⟩
      clear BX BY BXc0 BXc1 BXc2 BYc0 BYc1 BYc2 HF HG z1 z2
      have BX := BX3
      have BY := BY3
      clear BX3 BY3
      obtain ⟨BXc0, BXc1, BXc2⟩ := BX.out.facts
      obtain ⟨BYc0, BYc1, BYc2⟩ := BY.out.facts
      go_wp2_with fail
      refine (HKA.out _ HB.out).mono ?_
      rintro e w5 ⟨rfl, hb⟩
      replace BX := hid (BX.out.below hb)
      replace BY := hid (BY.out.below hb)
      replace HB := hid (below_both HB.out hb)
      clear BXc0 BXc1 BXc2 BYc0 BYc1 BYc2 hb
      obtain ⟨BXc0, BXc1, BXc2⟩ := BX.out.facts
      obtain ⟨BYc0, BYc1, BYc2⟩ := BY.out.facts
      go_wp2_with fail
      refine (HAW.out _ HB.out).mono ?_
      rintro e w9 ⟨rfl, hb⟩
      replace HB := hid (below_both HB.out hb)
      clear hb
      go_wp2
      go_ret
      exact ⟨rfl, HB.out⟩
  · rw [not_both hfew] at HF
    clear hfew
    go_enter Tryd.func9, Tryd.ntmps9
    go_wp2_with fail
    refine HF.out.mono ?_
    rintro e w4 ⟨rfl, rfl⟩
    clear BX BY BXc0 BXc1 BXc2 BYc0 BYc1 BYc2 HF HG z1 z2
    have BX := BX3
    have BY := BY3
    clear BX3 BY3
    obtain ⟨BXc0, BXc1, BXc2⟩ := BX.out.facts
    obtain ⟨BYc0, BYc1, BYc2⟩ := BY.out.facts
    go_wp2_with fail
    refine (HAW.out _ HB.out).mono ?_
    rintro e w9 ⟨rfl, hb⟩
    replace HB := hid (below_both HB.out hb)
    clear hb
    go_wp2
    go_ret
    exact ⟨rfl, HB.out⟩
end Go.Proofs.YtbifhcjkdfocaaaDoor
